"""The landings of a frame, and what bars them, old words and pages at the commitments of a knot."""

from orplaces.errors import NoLanding
from orplaces.integers import is_integer


class Landings:
    """The landings of all kinds and bases of a frame, each with the first of them; never changes."""

    def __init__(self, frame):
        self.frame = frame
        self._first = {}
        for kind in frame.kinds:
            masks = [kind.mask(row) for row in frame.rows.possible]
            for base in range(frame.size):
                self._first.setdefault(tuple([base | mask for mask in masks]), (kind.name, base))

    @property
    def in_order(self):
        """The tuple of the landings."""
        return tuple(self._first)

    def right(self, classes, number, committed):
        """The landings that do not clash for a class at these commitments."""
        for landing in self._first:
            if not clashes(landing, classes, number, committed):
                yield landing

    def __getitem__(self, at):
        if at not in self:
            raise NoLanding(at)
        return self._first[at]

    def __iter__(self):
        raise TypeError("landings are not gone through; take in_order")

    def __contains__(self, x):
        return is_landing(x) and x in self._first

    def __len__(self):
        return len(self._first)


def is_landing(value):
    """Whether any value is a tuple of integers that can be addresses."""
    return isinstance(value, tuple) and all([is_integer(address, 0, 255) for address in value])


def commitments(landing, classes, number):
    """The class to which each address of a landing is to be committed; None if two rows want unlike ones."""
    wanted = {}
    for address, led in zip(landing, classes.turns(number)):
        if wanted.setdefault(address, led) != led:
            return None
    return wanted


def agree(wanted, committed):
    """Whether no address is committed to a class other than the one that is wanted there."""
    return all([committed.get(address, led) == led for address, led in wanted.items()])


def clashes(landing, classes, number, committed):
    """Whether a landing clashes for a class at these commitments."""
    wanted = commitments(landing, classes, number)
    return wanted is None or not agree(wanted, committed)


def can_keep(store, address, classes, number, committed):
    """Whether the word at an address can be kept for a class at these commitments."""
    if address not in store or store[address].signals != classes.signals_of(number):
        return False
    return not clashes(landing_at(store, address), classes, number, committed)


def landing_at(store, address):
    """The landing of the word at an address."""
    word = store[address]
    return store.frame.landing(word.kind, word.base)


def fresh_pages(store, committed):
    """The ascending tuple of the fresh pages at these commitments."""
    idle = store.frame.idle
    led_into = [word.base for address, word in store.words()]
    held = [address for address in range(store.frame.size) if address in store]
    taken = set([address & idle for address in [*committed, *store.locked, *held, *led_into]])
    return tuple([page[0] for page in store.frame.pages() if page[0] not in taken])


def hidden(frame, kind, classes, number):
    """The first two rows that a kind does not tell apart, but a class does; None if there are none."""
    masks = [frame[kind].mask(row) for row in frame.rows.possible]
    turns = classes.turns(number)
    for at, row in enumerate(frame.rows.possible):
        for behind in range(at + 1, len(turns)):
            if masks[at] == masks[behind] and turns[at] != turns[behind]:
                return row, frame.rows.possible[behind]
    return None
