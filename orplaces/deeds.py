"""What the lines of a desk do and answer."""

from orplaces.entries import entry_classes
from orplaces.equivalence import failing, parting
from orplaces.errors import NoEntries, NotReady
from orplaces.needs import must_write
from orplaces.patches import changed
from orplaces.reader import made_word, read_frame, read_program, read_store
from orplaces.search import least
from orplaces.stores import Store
from orplaces.texts import floor_text, frame_text, program_text, row_words, spaced, store_text

DONE = "ok"
WITHOUT_FRAME = ("frame", "program")
WITH_PROGRAM = ("entry", "show program", "carries", "classes", "least", "floor", "must", "make", "apart")


def check_ready(desk, name):
    """Raises NotReady if the desk has no frame or no program, and what is wanted needs it."""
    if desk.frame is None and name not in WITHOUT_FRAME:
        raise NotReady("frame")
    if desk.program is None and name in WITH_PROGRAM:
        raise NotReady("program")


def keep_frame(desk, text):
    """Keeps a frame and a blank store of it, and nothing else."""
    frame = read_frame(text)
    desk.frame = frame
    desk.store = Store(frame)
    desk.program = None
    desk.entries = {}
    return DONE


def keep_store(desk, text):
    """Keeps a store of the frame."""
    desk.store = read_store(text, desk.frame)
    return DONE


def keep_program(desk, text):
    """Keeps a program and no entries."""
    desk.program = read_program(text)
    desk.entries = {}
    return DONE


def keep_entry(desk, address, state):
    """Adds an entry, or gives its address another state."""
    desk.store.check_stand(address)
    desk.program.check_stand(state)
    desk.entries[address] = state
    return DONE


def show_frame(desk):
    """The text of the frame."""
    return on_one_line(frame_text(desk.frame))


def show_store(desk):
    """The text of the store."""
    return on_one_line(store_text(desk.store))


def show_program(desk):
    """The text of the program."""
    return on_one_line(program_text(desk.program))


def show_entries(desk):
    """The entries, by ascending addresses."""
    return ", ".join([f"{address} {desk.entries[address]}" for address in sorted(desk.entries)])


def write_word(desk, address, kind, base, pairs):
    """Writes a word."""
    desk.store.write(address, made_word(kind, base, pairs))
    return DONE


def erase_word(desk, address):
    """Makes an address blank."""
    desk.store.erase(address)
    return DONE


def lock_addresses(desk, addresses):
    """Keeps the store with further locks."""
    desk.store = desk.store.with_locks(*addresses)
    return DONE


def tell_path(desk, address, rows):
    """The addresses of a path."""
    return spaced([str(place) for place in desk.store.path(address, rows)])


def tell_alike(desk, one, other):
    """Whether two addresses are alike, or the rows that part them."""
    sequence = parting(desk.store, one, desk.store, other, desk.frame.rows)
    if sequence is None:
        return "alike"
    return spaced(["parted", *row_words(sequence)])


def tell_carries(desk):
    """Whether the store carries the program, or the first reason why it does not."""
    reason = failing(desk.store, desk.program, desk.entries)
    if reason is None:
        return "yes"
    told = []
    for part in reason:
        told.extend(row_words(part) if isinstance(part, tuple) else [str(part)])
    return spaced(told)


def tell_classes(desk):
    """The classes of the program from the states of the entries."""
    check_begun(desk)
    groups = entry_classes(desk.store, desk.program, desk.entries).groups
    return ", ".join([spaced(group) for group in groups])


def tell_least(desk, limit):
    """What a search comes to, with its lines."""
    outcome = least(desk.store, desk.program, desk.entries, limit=limit)
    told = list(outcome.lines())
    return tell_outcome(outcome) + (": " + " / ".join(told) if told else "")


def tell_outcome(outcome):
    """The number of writes, or that there is no made store."""
    return f"made {len(outcome)}" if outcome else "barred"


def tell_floor(desk):
    """The text of the floor, if there is one."""
    floor = least(desk.store, desk.program, desk.entries).floor
    return "" if floor is None else on_one_line(floor_text(floor))


def tell_must(desk):
    """The addresses that every least store writes."""
    return spaced([str(address) for address in must_write(desk.store, desk.program, desk.entries)])


def make_store(desk):
    """Writes what a search tells into the store."""
    outcome = least(desk.store, desk.program, desk.entries)
    if outcome:
        result = outcome.result
        for address in outcome.written:
            desk.store.write(address, result[address])
    return tell_outcome(outcome)


def try_word(desk, address, kind, base, pairs):
    """The addresses from which a word would change what is shown, each with the rows that show it first."""
    check_begun(desk)
    patch = {address: made_word(kind, base, pairs)}
    starts = sorted(desk.entries)
    told = []
    for place, sequence in changed(desk.store, patch, *starts):
        told.append(spaced([str(place), *row_words(sequence)]))
    return ", ".join(told)


def set_apart(desk, state, index, name):
    """Keeps the program with a target set apart."""
    desk.program = desk.program.apart(state, index, name)
    return DONE


def check_begun(desk):
    """Raises NoEntries if the desk has none."""
    if not desk.entries:
        raise NoEntries()


def on_one_line(text):
    """A text with a slash between spaces in the place of each newline."""
    return text.replace("\n", " / ")


DEEDS = {
    "frame": keep_frame,
    "store": keep_store,
    "program": keep_program,
    "entry": keep_entry,
    "show frame": show_frame,
    "show store": show_store,
    "show program": show_program,
    "show entries": show_entries,
    "word": write_word,
    "erase": erase_word,
    "lock": lock_addresses,
    "path": tell_path,
    "alike": tell_alike,
    "carries": tell_carries,
    "classes": tell_classes,
    "least": tell_least,
    "floor": tell_floor,
    "must": tell_must,
    "make": make_store,
    "try": try_word,
    "apart": set_apart,
}


def carry_out(desk, name, told):
    """The answer to what is wanted by this name, with what is told of it."""
    check_ready(desk, name)
    deed = DEEDS[name]
    return deed(desk, *told) or "none"
