"""Reads the written forms of frames, programs, stores, floors, words and rows."""

from orplaces.frames import Frame
from orplaces.kinds import Masks
from orplaces.names import is_name
from orplaces.programs import MOST_TESTS, Program, State
from orplaces.rows import Rows, is_row, row_number
from orplaces.scans import pair_of, row_of, take_later_number, take_literal, take_name, take_names, take_number
from orplaces.scans import take_other_name, take_other_names, take_pairs, take_row, take_rows, text_scan
from orplaces.signals import Signals
from orplaces.stores import Store, Word

MOST_DEPTH = 64


def read_frame(text):
    """The frame of a text."""
    scan = text_scan(text)
    take_literal(scan, "width")
    width = take_number(scan)
    scan.end_line()
    take_literal(scan, "conditions")
    conditions = take_other_names(scan)
    scan.end_line()
    take_literal(scan, "rows")
    listed = take_possible(scan, conditions)
    scan.end_line()
    take_literal(scan, "fields")
    fields = take_other_names(scan)
    scan.end_line()
    masks = take_kinds(scan, conditions)
    rows = Rows.full(conditions) if listed is None else Rows.of(conditions, listed)
    return Frame.of(width, rows, fields, [Masks(name, masks[name]) for name in masks])


def take_possible(scan, conditions):
    """Takes the possible rows by their numbers, up to the end of the line; None if all are."""
    if scan.ahead() == "all":
        scan.take(True)
        return None
    rows = []
    last = -1
    while not rows or scan.ahead() is not None:
        row = row_of(scan.ahead())
        number = row_number(conditions, row) if is_row(conditions, row) else -1
        # All rows are told by a word of their own, so the last one of them cannot stand.
        scan.take(number > last and len(rows) + 1 != 1 << len(conditions))
        rows.append(row)
        last = number
    return rows


def take_kinds(scan, conditions):
    """Takes one line or more of kinds, up to the end of the text; a dict from their names to their masks."""
    kinds = {}
    while not kinds or not scan.is_done():
        take_literal(scan, "kind")
        name = take_other_name(scan, kinds)
        kinds[name] = take_masks(scan, conditions)
        scan.end_line()
    return kinds


def take_masks(scan, conditions):
    """Takes the masks of conditions in their order, up to the end of the line."""
    masks = {}
    left = conditions
    while scan.ahead() is not None:
        pair = pair_of(scan.ahead())
        scan.take(pair is not None and pair[0] in left)
        condition, mask = pair
        masks[condition] = mask
        left = left[left.index(condition) + 1:]
    return masks


def read_program(text):
    """The program of a text."""
    scan = text_scan(text)
    told = {}
    while not scan.is_done():
        take_literal(scan, "state")
        name = take_other_name(scan, told)
        told[name] = take_state(scan)
        scan.end_line()
    return Program.listed([made_state(name, told[name]) for name in told])


def take_state(scan):
    """Takes what stands behind the name of a state."""
    pairs = take_pairs(scan, ("if", "to"))
    tests = take_tests(scan)
    take_literal(scan, "to")
    targets = [take_name(scan) for _ in range(1 << len(tests))]
    if scan.ahead() is None:
        return pairs, targets, tests, None
    take_literal(scan, "tag")
    return pairs, targets, tests, take_name(scan)


def take_tests(scan):
    """Takes the tests of a state, if there are any."""
    tests = []
    if scan.ahead() != "if":
        return tests
    scan.take(True)
    while not tests or scan.ahead() != "to":
        right = is_name(scan.ahead()) and scan.ahead() not in tests and len(tests) < MOST_TESTS
        tests.append(scan.take(right))
    return tests


def made_state(name, told):
    """The state of what a line tells of it."""
    pairs, targets, tests, tag = told
    return State.of(name, Signals.of(pairs), targets, tests, tag)


def read_store(text, frame):
    """The store of a frame that a text tells."""
    scan = text_scan(text)
    told = []
    locked = []
    if scan.ahead() == "blank":
        scan.take(True)
        scan.end_line()
    else:
        told = take_words(scan)
        if not scan.is_done():
            locked = take_locked(scan)
    scan.end_text()
    words = {address: made_word(kind, base, pairs) for address, kind, base, pairs in told}
    return Store(frame, words, locked=locked)


def take_words(scan):
    """Takes the lines of words by their addresses, as long as there are any."""
    told = []
    last = -1
    while scan.ahead() == "word":
        scan.take(True)
        last = take_later_number(scan, last)
        kind, base, pairs = take_word(scan)
        told.append((last, kind, base, pairs))
        scan.end_line()
    return told


def take_locked(scan):
    """Takes the line of the locked addresses."""
    take_literal(scan, "locked")
    locked = [take_number(scan)]
    while scan.ahead() is not None:
        locked.append(take_later_number(scan, locked[-1]))
    scan.end_line()
    return locked


def take_word(scan):
    """Takes the kind, the base and the signals of a word, up to the end of the line."""
    return take_name(scan), take_number(scan), take_pairs(scan)


def made_word(kind, base, pairs):
    """The word of what a text tells of it."""
    return Word(kind, base, Signals.of(pairs))


def read_floor(text):
    """The floor of a text, of which the form alone is looked at."""
    scan = text_scan(text)
    take_literal(scan, "bound")
    bound = take_bound(scan)
    scan.end_line()
    classes = take_classes(scan)
    partings = take_partings(scan)
    tree = () if scan.is_done() else take_knot(scan, 1)
    scan.end_text()
    return bound, classes, partings, tree


def take_bound(scan):
    """Takes a bound, None if it is none."""
    if scan.ahead() == "none":
        scan.take(True)
        return None
    return take_number(scan)


def take_classes(scan):
    """Takes one line or more of classes."""
    classes = []
    while not classes or scan.ahead() == "class":
        take_literal(scan, "class")
        classes.append(take_names(scan))
        scan.end_line()
    return tuple(classes)


def take_partings(scan):
    """Takes the lines of partings, as long as there are any."""
    partings = []
    while scan.ahead() == "parting":
        scan.take(True)
        partings.append((take_number(scan), take_number(scan), take_rows(scan)))
        scan.end_line()
    return tuple(partings)


def take_knot(scan, depth):
    """Takes the line of a knot and those of all knots below it."""
    scan.take(scan.ahead() == "knot" and depth <= MOST_DEPTH)
    address = take_number(scan)
    many = take_number(scan)
    scan.end_line()
    return (address, *[take_knot(scan, depth + 1) for _ in range(many)])


def read_word(text):
    """The word of a text."""
    scan = text_scan(text)
    kind, base, pairs = take_word(scan)
    scan.end_line()
    scan.end_text()
    return made_word(kind, base, pairs)


def read_row(text):
    """The row of a text, a tuple of any different names."""
    scan = text_scan(text)
    row = take_row(scan)
    scan.end_line()
    scan.end_text()
    return row
