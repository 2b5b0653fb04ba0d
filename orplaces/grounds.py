"""What all knots of one search have in common."""

from orplaces.landings import Landings, agree, commitments, fresh_pages, landing_at
from orplaces.stores import Word


class Ground:
    """A store and classes, and what each landing commits for each class; never changes."""

    def __init__(self, store, classes):
        self.store = store.twin()
        self.classes = classes
        self._landings = Landings(store.frame)
        self._wanted = [all_commitments(self._landings, classes, number) for number in range(len(classes))]
        self._alike = alike_landings(store, classes)
        self._told = tuple(sorted(set([number for address, number in self._alike])))
        self._locks = store.locked
        self._idle = store.frame.idle
        self._unused = fresh_pages(store, {})

    def old_landing(self, address, number):
        """The landing of the given word at an address if it has the signals of a class, otherwise None."""
        return self._alike.get((address, number))

    def can_keep(self, address, committed):
        """Whether a committed address can be kept."""
        number = committed[address]
        wanted = self._wanted[number].get(self.old_landing(address, number))
        return wanted is not None and agree(wanted, committed)

    def can_write(self, address):
        """Whether an address is not locked."""
        return address not in self._locks

    def commits(self, number, landing):
        """The classes to which the addresses of the landing of a word of a class are committed."""
        return self._wanted[number][landing]

    def right_landings(self, number, committed):
        """The landings that may become that of a class, in order."""
        begun = set([address & self._idle for address in committed])
        fresh = [page for page in self._unused if page not in begun]
        spared = set(fresh[1:])
        found = []
        for landing, wanted in self._wanted[number].items():
            if landing[0] & self._idle not in spared and agree(wanted, committed):
                found.append(landing)
        return found

    def closing(self, bound, committed, waiting, written):
        """What closes a knot: "locked", "full", "dear", or None if nothing does."""
        stuck = [address for address in waiting if not self.can_keep(address, committed)]
        if not all([self.can_write(address) for address in stuck]):
            return "locked"
        present = set(list(committed.values()))
        absent = [number for number in range(len(self.classes)) if number not in present]
        if len(committed) + len(absent) > self.store.frame.size:
            return "full"
        untold = [number for number in absent if number not in self._told]
        if bound is not None and len(written) + len(stuck) + len(untold) > bound:
            return "dear"
        return None

    def made_word(self, number, landing):
        """The word that is written for a class with this landing."""
        kind, base = self._landings[landing]
        return Word(kind, base, self.classes.signals_of(number))


def all_commitments(landings, classes, number):
    """What each landing commits for a class, in order, without those in which two rows clash."""
    found = {}
    for landing in landings.in_order:
        wanted = commitments(landing, classes, number)
        if wanted is not None:
            found[landing] = wanted
    return found


def alike_landings(store, classes):
    """By address and class the landing of each word that has the signals of the class."""
    found = {}
    for address, word in store.words():
        for number in range(len(classes)):
            if word.signals == classes.signals_of(number):
                found[(address, number)] = landing_at(store, address)
    return found
