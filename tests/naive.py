"""What the document says, done by trying everything; slow, and only for what is small."""

import itertools

from orplaces.stores import Word


def sequences(rows, most):
    """All sequences of at most so many rows, in order."""
    for length in range(most + 1):
        yield from itertools.product(rows.possible, repeat=length)


def run(machine, stand, sequence):
    """Where a sequence leads to, None behind a blank address."""
    for row in sequence:
        stand = None if stand is None else machine.stepped(stand, row)
    return stand


def shown(machine, stand):
    signals = None if stand is None else machine.shown(stand)
    return "blank" if signals is None else signals.told


def naive_parting(one, stand, other, other_stand, rows, most):
    """The parting of two starts if it has at most so many rows."""
    for sequence in sequences(rows, most):
        if shown(one, run(one, stand, sequence)) != shown(other, run(other, other_stand, sequence)):
            return sequence
    return None


def looked(program, state):
    return program[state].signals.told, program[state].tag


def naive_state_parting(program, rows, one, other, most):
    """The parting of two states, by signals or tags."""
    for sequence in sequences(rows, most):
        if looked(program, run(program, one, sequence)) != looked(program, run(program, other, sequence)):
            return sequence
    return None


def naive_met(program, rows, states):
    met = list(dict.fromkeys(states))
    for state in met:
        met += [led for led in dict.fromkeys([program(state, row) for row in rows.possible]) if led not in met]
    return tuple(met)


def naive_groups(program, rows, states, most=4):
    """The classes of at most six states: 2 groups are apart at once, and each further row parts one more."""
    groups = []
    for state in naive_met(program, rows, states):
        for group in groups:
            if naive_state_parting(program, rows, group[0], state, most) is None:
                group.append(state)
                break
        else:
            groups.append([state])
    return tuple([tuple(group) for group in groups])


def naive_walk(store, program, entries):
    """The pairs of the walk, ascending."""
    pairs = list(entries.items())
    for at, state in pairs:
        if at in store:
            led = [(store.stepped(at, row), program(state, row)) for row in store.frame.rows.possible]
            pairs += [pair for pair in dict.fromkeys(led) if pair not in pairs]
    return tuple(sorted(pairs))


def naive_carries(store, program, entries, class_of):
    firsts = {}
    for at, state in naive_walk(store, program, entries):
        if at not in store or store[at].signals != program[state].signals:
            return False
        if firsts.setdefault(at, class_of[state]) != class_of[state]:
            return False
    return True


class NaiveSearch:
    """The search of the document for one store, program and entries, word by word."""

    def __init__(self, store, program, entries):
        rows = store.frame.rows
        states = [entries[at] for at in sorted(entries)]
        groups = naive_groups(program, rows, states)
        self.class_of = {state: number for number, group in enumerate(groups) for state in group}
        self.led = [[self.class_of[program(group[0], row)] for row in rows.possible] for group in groups]
        self.signals = [program[group[0]].signals for group in groups]
        self.store = store
        self.frame = store.frame
        self.first = ({at: self.class_of[entries[at]] for at in entries}, set(), set(), {})
        self.program, self.entries = program, entries

    def word_landing(self, at):
        return self.frame.landing(self.store[at].kind, self.store[at].base)

    def clash(self, landing, c, committed):
        for i, at in enumerate(landing):
            if committed.get(at, self.led[c][i]) != self.led[c][i]:
                return True
            for j, other in enumerate(landing):
                if at == other and self.led[c][i] != self.led[c][j]:
                    return True
        return False

    def keepable(self, at, c, committed):
        if at not in self.store or self.store[at].signals != self.signals[c]:
            return False
        return not self.clash(self.word_landing(at), c, committed)

    def waiting(self, knot):
        committed, kept, written, landings = knot
        return sorted(at for at in committed if at not in kept and at not in written)

    def closed(self, knot, bound):
        committed, kept, written, landings = knot
        stuck = [at for at in self.waiting(knot) if not self.keepable(at, committed[at], committed)]
        absent = [c for c in range(len(self.led)) if c not in committed.values()]
        if any(at in self.store.locked for at in stuck):
            return "locked"
        if len(committed) + len(absent) > 2 ** self.frame.width:
            return "full"
        new = [c for c in absent if all(word.signals != self.signals[c] for at, word in self.store.words())]
        if bound is not None and len(written) + len(stuck) + len(new) > bound:
            return "dear"
        return None

    def fresh(self, committed):
        bases = [word.base for at, word in self.store.words()]
        return [page[0] for page in self.frame.pages()
                if not any(at in committed or at in self.store or at in self.store.locked or at in bases
                           for at in page)]

    def cases(self, knot, at):
        committed, kept, written, landings = knot
        c = committed[at]
        found = []
        if self.keepable(at, c, committed):
            found.append(("kept", self.word_landing(at)))
        if at in self.store.locked:
            return found
        same = at in self.store and self.store[at].signals == self.signals[c]
        if c in landings:
            told = [landings[c]]
        else:
            fresh = self.fresh(committed)
            told = []
            for kind in self.frame.kinds:
                for base in range(self.frame.size):
                    landing = self.frame.landing(kind.name, base)
                    passed = self.clash(landing, c, committed) or self.frame.page(base) in fresh[1:]
                    if not passed and landing not in told:
                        told.append(landing)
        return found + [("written", landing) for landing in told if not (same and landing == self.word_landing(at))]

    def after(self, knot, at, case):
        committed, kept, written, landings = knot
        c = committed[at]
        committed = {**committed, **dict(zip(case[1], self.led[c]))}
        if case[0] == "kept":
            return committed, kept | {at}, written, landings
        return committed, kept, written | {at}, {**landings, c: case[1]}

    def word(self, c, landing):
        return next(Word(kind.name, base, self.signals[c]) for kind in self.frame.kinds
                    for base in range(self.frame.size) if self.frame.landing(kind.name, base) == landing)

    def end_store(self, knot):
        committed, kept, written, landings = knot
        return self.store | {at: self.word(committed[at], landings[committed[at]]) for at in written}

    def grow(self, bound):
        """What grown returns."""
        told = {"knots": 0, "dear": False, "end": None}

        def tree(knot):
            closed = self.closed(knot, bound)
            if closed:
                told["dear"] |= closed == "dear"
                return ()
            if not self.waiting(knot):
                told["end"] = self.end_store(knot)
                return None
            told["knots"] += 1
            at = self.waiting(knot)[0]
            below = []
            for case in self.cases(knot, at):
                below.append(tree(self.after(knot, at, case)))
                if below[-1] is None:
                    return None
            return (at, *[branch for branch in below if branch])

        found = tree(self.first)
        return found, told["end"], told["dear"], told["knots"]

    def made_stores(self):
        """The least number of writes, and all made stores with so many that carry the program; None and none."""
        free = [at for at in range(self.frame.size) if at not in self.store.locked]
        landings = {}
        for kind in self.frame.kinds:
            for base in range(self.frame.size):
                landings.setdefault(self.frame.landing(kind.name, base), (kind.name, base))
        words = [Word(kind, base, signals) for kind, base in landings.values()
                 for at, signals in enumerate(self.signals) if signals not in self.signals[:at]]
        for many in range(len(free) + 1):
            made = []
            for places in itertools.combinations(free, many):
                for chosen in itertools.product(words, repeat=many):
                    store = self.store | dict(zip(places, chosen))
                    if len(self.store.differs(store)) == many:
                        if naive_carries(store, self.program, self.entries, self.class_of):
                            made.append(store)
            if made:
                return many, made
        return None, []


def naive_partition(program, rows, states, groups, partings):
    """Whether these tuples are what the document says of the classes and the partings of a floor."""
    met = naive_met(program, rows, states)
    if sorted(state for group in groups for state in group) != sorted(met) or () in groups:
        return False
    group_of = {state: number for number, group in enumerate(groups) for state in group}
    for state in met:
        first = groups[group_of[state]][0]
        if looked(program, state) != looked(program, first):
            return False
        if any(group_of[program(state, row)] != group_of[program(first, row)] for row in rows.possible):
            return False
    pairs = [(i, j) for i in range(len(groups)) for j in range(i + 1, len(groups))]
    return [part[:2] for part in partings] == pairs and all(
        looked(program, run(program, groups[i][0], sequence)) != looked(program, run(program, groups[j][0], sequence))
        for i, j, sequence in partings)


def naive_tree(search, bound, knot, tree):
    """Whether the tree is one of the knot for the bound, any waiting address asked, without an end."""
    if search.closed(knot, bound) or not search.waiting(knot) or tree == () or tree[0] not in search.waiting(knot):
        return False
    later = [search.after(knot, tree[0], case) for case in search.cases(knot, tree[0])]
    later = [knot for knot in later if not search.closed(knot, bound)]
    return len(later) == len(tree) - 1 and all(
        naive_tree(search, bound, knot, below) for knot, below in zip(later, tree[1:]))


def naive_floor(search, floor):
    """Whether a tuple of a right form is a floor."""
    bound, groups, partings, tree = floor
    states = [search.entries[at] for at in sorted(search.entries)]
    if not naive_partition(search.program, search.frame.rows, states, groups, partings):
        return False
    if search.closed(search.first, bound):
        return tree == ()
    return naive_tree(search, bound, search.first, tree)
