"""Whether machines are alike, and whether a store carries a program."""

from orplaces.entries import check_entries, entry_classes
from orplaces.errors import Unlike
from orplaces.stores import Store


class Joint:
    """Two machines that go by the same rows, and the pairs of their stands that are met then."""

    def __init__(self, one, other, rows):
        self._machines = (one, other)
        self._rows = rows
        self._steps = ({}, {})
        self._ahead = {}

    def met_pairs(self, starts):
        """The pairs that are led to from a list of pairs, in the order of Machine.reached."""
        self._ahead = {pair: None for pair in starts}
        queue = list(self._ahead)
        done = 0
        while done < len(queue):
            pair = queue[done]
            done += 1
            yield pair
            for row, led in zip(self._rows.possible, self.pairs_behind(pair)):
                if led not in self._ahead:
                    # A chain of pairs can be long: the sequences are made of these links when they are asked for.
                    self._ahead[led] = (pair, row)
                    queue.append(led)

    def way(self, pair):
        """The start and the sequence by which a pair was met first."""
        rows = []
        while self._ahead[pair] is not None:
            pair, row = self._ahead[pair]
            rows.append(row)
        return pair, tuple(rows[::-1])

    def pairs_behind(self, pair):
        """The pairs to which a pair leads, row by row; none if one of its stands is blank."""
        ones, others = self.stands_behind(0, pair[0]), self.stands_behind(1, pair[1])
        if ones[0] is None or others[0] is None:
            return []
        return list(zip(ones, others))

    def stands_behind(self, side, stand):
        """The stands to which a stand of one of the machines leads, row by row."""
        known = self._steps[side]
        if stand not in known:
            known[stand] = [self._machines[side].stepped(stand, row) for row in self._rows.possible]
        return known[stand]

    def shows_alike(self, pair):
        """Whether both stands of a pair show the same, or both are blank."""
        one, other = self._machines
        return one.shown(pair[0]) == other.shown(pair[1])

    def has_pair(self, value):
        """Whether any value is a pair of stands."""
        if not isinstance(value, tuple) or len(value) != 2:
            return False
        one, other = self._machines
        return one.has_stand(value[0]) and other.has_stand(value[1])


def parting(one, stand, other, other_stand, rows):
    """The first sequence behind which two starts show unlike things; None if they are alike."""
    check_starts(one, stand, other, other_stand, rows)
    joint = Joint(one, other, rows)
    starts = [(stand, other_stand)]
    for pair in joint.met_pairs(starts):
        if not joint.shows_alike(pair):
            start, sequence = joint.way(pair)
            return sequence
    return None


def table(one, stand, other, other_stand, rows):
    """The ascending tuple of the pairs that two alike starts lead to; None if they are parted."""
    check_starts(one, stand, other, other_stand, rows)
    joint = Joint(one, other, rows)
    starts = [(stand, other_stand)]
    met = []
    for pair in joint.met_pairs(starts):
        if not joint.shows_alike(pair):
            return None
        met.append(pair)
    return tuple(sorted(met))


def is_table(one, stand, other, other_stand, rows, value):
    """Whether any value shows that two starts are alike."""
    check_starts(one, stand, other, other_stand, rows)
    joint = Joint(one, other, rows)
    if not isinstance(value, tuple) or not all([joint.has_pair(part) for part in value]):
        return False
    pairs = {pair: True for pair in value}
    if (stand, other_stand) not in pairs or not all([joint.shows_alike(pair) for pair in pairs]):
        return False
    return all([led in pairs for pair in pairs for led in joint.pairs_behind(pair)])


def check_starts(one, stand, other, other_stand, rows):
    """Raises Unlike for a store of other conditions, then the error for the first value that is no stand."""
    for machine in (one, other):
        if isinstance(machine, Store) and machine.frame.rows.conditions != rows.conditions:
            raise Unlike()
    one.check_stand(stand)
    other.check_stand(other_stand)


def walk(store, program, entries):
    """The ascending tuple of the pairs of the walk."""
    check_entries(store, program, entries)
    joint = Joint(store, program, store.frame.rows)
    starts = entry_pairs(entries)
    met = list(joint.met_pairs(starts))
    return tuple(sorted(met))


def carries(store, program, entries):
    """Whether the store carries the program from the entries."""
    return failing(store, program, entries) is None


def failing(store, program, entries):
    """Why the store does not carry the program: the first reason; None if it does."""
    check_entries(store, program, entries)
    classes = entry_classes(store, program, entries)
    joint = Joint(store, program, store.frame.rows)
    starts = entry_pairs(entries)
    firsts = {}
    for pair in joint.met_pairs(starts):
        address, state = pair
        first = firsts.setdefault(address, pair)
        if address not in store:
            return ("blank", *entry_way(joint, pair))
        if not joint.shows_alike(pair):
            return ("shown", *entry_way(joint, pair))
        if classes.number(first[1]) != classes.number(state):
            return ("shared", *entry_way(joint, first), *entry_way(joint, pair))
    return None


def entry_pairs(entries):
    """The pairs of an address and its state, ascending."""
    return [(address, entries[address]) for address in sorted(entries)]


def entry_way(joint, pair):
    """The address of the entry and the sequence by which a pair was met first."""
    start, sequence = joint.way(pair)
    return start[0], sequence
