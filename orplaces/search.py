"""The search for made stores with the fewest writes, and its outcomes."""

from orplaces.equivalence import walk
from orplaces.errors import InvalidNumber, TooLarge
from orplaces.integers import is_integer
from orplaces.knots import Knot
from orplaces.landings import hidden

MOST_LIMIT = 4000
USUAL_LIMIT = 2000


class Growth:
    """The trees of one search, and the knots that were asked in all of them."""

    def __init__(self, limit):
        self.knots = 0
        self.dear = False
        self.ended = None
        self._limit = limit

    def tree_of(self, knot):
        """The tree of a first knot; None if it comes to an end, which is then told by ended."""
        self.dear = False
        self.ended = None
        return self.branch(knot)

    def branch(self, knot):
        """The tree of any knot, None if it comes to an end."""
        if knot:
            self.ended = knot
            return None
        if knot.closed is not None:
            self.dear = self.dear or knot.closed == "dear"
            return ()
        if self.knots == self._limit:
            raise TooLarge(self._limit)
        self.knots += 1
        tree = [knot.asked]
        cases = list(knot.cases())
        for case in cases:
            below = self.branch(knot.behind(knot.asked, case))
            if below is None:
                return None
            if below:
                tree.append(below)
        return tuple(tree)


class Outcome:
    """What a search came to for a store, a program and entries; never changes."""

    def __init__(self, program, store, entries):
        self.program = program
        self._given = store.twin()
        self._starts = dict(entries)

    @property
    def starts(self):
        """The entries."""
        return dict(self._starts)

    @property
    def given(self):
        """A store equal to the one that was passed."""
        return self._given.twin()

    def lines(self):
        """The lines that tell the outcome."""
        yield from self.told_lines()

    def told_lines(self):
        """The list of these lines."""
        return []

    def __bool__(self):
        return False

    def __len__(self):
        return 0


class Made(Outcome):
    """A made store with the fewest writes that carries the program."""

    def __init__(self, program, store, entries, result, floor):
        Outcome.__init__(self, program, store, entries)
        self.written = store.differs(result)
        self.table = walk(result, program, entries)
        self.floor = floor
        self._result = result

    @property
    def result(self):
        """The made store."""
        return self._result.twin()

    def told_lines(self):
        """A line for each written address and its word."""
        return [f"{address:>3} {self._result[address]}" for address in self.written]

    def __bool__(self):
        return True

    def __len__(self):
        return len(self.written)


class Barred(Outcome):
    """Why no made store carries the program."""

    def __init__(self, program, store, entries, bar, floor):
        Outcome.__init__(self, program, store, entries)
        self.bar = bar
        self.floor = floor

    def told_lines(self):
        """One line, of the bar or of the floor."""
        if self.bar is None:
            return [f"tree {knots_in(self.floor[3])}"]
        return [f"bar {self.bar[0]} {self.bar[2]}"]

    def __bool__(self):
        return False

    def __len__(self):
        return 0


def grown(store, program, entries, bound=None, *, limit=USUAL_LIMIT):
    """The tree for one bound, the store of its end, whether a knot was dear, and how many were asked."""
    check_limit(limit)
    growth = Growth(limit)
    tree = growth.tree_of(Knot.first(store, program, entries, bound))
    result = None if growth.ended is None else growth.ended.end_store()
    return tree, result, growth.dear, growth.knots


def least(store, program, entries, *, limit=USUAL_LIMIT):
    """The Made with the fewest writes, or why there is none."""
    check_limit(limit)
    first = Knot.first(store, program, entries)
    bar = bar_of(store.frame, program, entries, first.classes)
    if bar is not None:
        return Barred(program, store, entries, bar, None)
    growth = Growth(limit)
    bound = 0
    floor = None
    tree = growth.tree_of(first.with_bound(bound))
    while tree is not None and growth.dear:
        floor = floor_of(bound, first.classes, tree)
        bound += 1
        tree = growth.tree_of(first.with_bound(bound))
    if tree is None:
        return Made(program, store, entries, growth.ended.end_store(), floor)
    return Barred(program, store, entries, None, floor_of(None, first.classes, tree))


def check_limit(limit):
    """Raises InvalidNumber if any value is no limit."""
    if not is_integer(limit, 1, MOST_LIMIT):
        raise InvalidNumber(limit)


def floor_of(bound, classes, tree):
    """The floor of a tree for a bound."""
    return bound, classes.groups, tuple(classes.partings()), tree


def knots_in(tree):
    """The number of knots in a tree."""
    return 1 + sum([knots_in(below) for below in tree[1:]]) if tree else 0


def bar_of(frame, program, entries, classes):
    """The bar for the first reached state whose class no kind serves; None if there is none."""
    for state in classes.states:
        number = classes.number(state)
        rows = [hidden(frame, kind.name, classes, number) for kind in frame.kinds]
        if all([pair is not None for pair in rows]):
            start, sequence = classes.way(state)
            entry = [address for address in sorted(entries) if entries[address] == start][0]
            return entry, sequence, state, tuple([told_apart(classes, state, one, other) for one, other in rows])
    return None


def told_apart(classes, state, one, other):
    """Two rows with the sequence that parts the states to which they lead."""
    program = classes.program
    return one, other, classes.parting(program.stepped(state, one), program.stepped(state, other))
