"""Knots of the search for made stores."""

from orplaces.entries import check_entries, entry_classes
from orplaces.errors import NoCase, NotEnd, TooLarge
from orplaces.grounds import Ground
from orplaces.landings import is_landing

MOST_ADDRESSES = 64
MOST_STEPS = 1024


class Knot:
    """What is committed, kept and written of a store; made by first and after alone, never changes."""

    def __init__(self, ground, bound, committed, waiting, kept, written, landings):
        self.classes = ground.classes
        self.bound = bound
        self.kept = kept
        self.written = written
        self._ground = ground
        self._committed = committed
        self._waiting = waiting
        self._landings = landings
        self._closing = ground.closing(bound, committed, waiting, written)

    @staticmethod
    def first(store, program, entries, bound=None):
        """The first knot for a bound."""
        check_entries(store, program, entries)
        check_size(store.frame)
        classes = entry_classes(store, program, entries)
        committed = {address: classes.number(entries[address]) for address in sorted(entries)}
        return Knot(Ground(store, classes), bound, committed, tuple(sorted(entries)), (), (), {})

    def with_bound(self, bound):
        """The same knot for another bound."""
        return Knot(self._ground, bound, self._committed, self._waiting, self.kept, self.written, self._landings)

    @property
    def committed(self):
        """A dict from the committed addresses to the numbers of their classes."""
        return dict(self._committed)

    @property
    def waiting(self):
        """The ascending tuple of the addresses that are committed, but neither kept nor written."""
        return self._waiting

    @property
    def closed(self):
        """The first that closes the knot, "locked", "full" or "dear"; None if nothing does."""
        return self._closing

    @property
    def asked(self):
        """The address that is asked; None if the knot is closed or an end."""
        return self._waiting[0] if self._closing is None and self._waiting else None

    def landing_of(self, number):
        """The landing of the written words of a class, None if it has none."""
        return self._landings.get(number)

    def cases(self):
        """The cases of the asked address, in order."""
        if self.asked is not None:
            for case in self.cases_at(self.asked):
                yield case

    def cases_at(self, address):
        """The list of the cases of a waiting address, in order."""
        number = self._committed[address]
        old = self._ground.old_landing(address, number)
        found = []
        if self._ground.can_keep(address, self._committed):
            found.append(("kept", old))
        if self._ground.can_write(address):
            found.extend([("written", landing) for landing in self.landings_for(number) if landing != old])
        return found

    def landings_for(self, number):
        """The list of the landings with which words of a class can be written."""
        if number in self._landings:
            return [self._landings[number]]
        return self._ground.right_landings(number, self._committed)

    def after(self, case):
        """The knot to which a case of the asked address leads."""
        if not is_case(case) or case not in list(self.cases()):
            raise NoCase(case)
        return self.behind(self.asked, case)

    def behind(self, address, case):
        """The knot to which one of the cases of a waiting address leads."""
        form, landing = case
        number = self._committed[address]
        kept, written, landings = self.kept, self.written, self._landings
        if form == "kept":
            kept = tuple(sorted([*kept, address]))
        else:
            written = tuple(sorted([*written, address]))
            landings = {**landings, number: landing}
        wanted = self._ground.commits(number, landing)
        added = [led for led in wanted if led not in self._committed]
        waiting = tuple(sorted([other for other in [*self._waiting, *added] if other != address]))
        return Knot(self._ground, self.bound, {**self._committed, **wanted}, waiting, kept, written, landings)

    def end_store(self):
        """The store of an end, a new one."""
        if not self:
            raise NotEnd()
        made = {}
        for address in self.written:
            number = self._committed[address]
            made[address] = self._ground.made_word(number, self._landings[number])
        return self._ground.store | made

    def __bool__(self):
        return self._closing is None and not self._waiting


def check_size(frame):
    """Raises TooLarge for a frame of which there is too much to search."""
    if frame.size > MOST_ADDRESSES:
        raise TooLarge(MOST_ADDRESSES)
    if len(frame) * frame.size * len(frame.rows) > MOST_STEPS:
        raise TooLarge(MOST_STEPS)


def is_case(value):
    """Whether any value is a pair of a string and a landing."""
    return isinstance(value, tuple) and len(value) == 2 and isinstance(value[0], str) and is_landing(value[1])
