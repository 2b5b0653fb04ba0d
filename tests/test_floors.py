import unittest

from makers import maker, some_search
from naive import NaiveSearch, naive_carries, naive_floor
from orplaces.classes import Classes
from orplaces.errors import InvalidAddress, NoCondition, NoEntries, NoField, NoState, TooLarge
from orplaces.floors import check_bar, check_floor, check_made
from orplaces.frames import Frame
from orplaces.kinds import Kind, Masks, Test
from orplaces.knots import Knot
from orplaces.programs import Program, State
from orplaces.rows import Rows
from orplaces.search import grown, least
from orplaces.signals import Signals
from orplaces.stores import Store, Word
from support import Checks, any_values, nested

FRAME = Frame(3, Rows.full(("a",)), ("s",), Kind("n"), Test("t", "a", 0))
PROGRAM = Program(State("p", Signals(s=1), "p", "q", tests=("a",)), State("q", Signals(s=2), "q"))
P, Q = Word("t", 2, Signals(s=1)), Word("n", 3, Signals(s=2))
SMALL = Frame(1, Rows.full(("a",)), ("s",), Kind("n"), Test("t", "a", 0))
RING = Program(State("p", Signals(s=1), "p", "q", tests=("a",)), State("q", Signals(s=2), "q", "p", tests=("a",)))
CHECKS = (check_made, check_floor, check_bar)


def lists_in(value):
    """The value with one of its tuples as a list, for each of them."""
    if isinstance(value, tuple):
        yield list(value)
        for at, part in enumerate(value):
            for other in lists_in(part):
                yield value[:at] + (other,) + value[at + 1:]


def bools_in(value):
    """The value with a bool in the place of one of its zeros and ones, for each of them."""
    if isinstance(value, tuple):
        for at, part in enumerate(value):
            others = [bool(part)] if part in (0, 1) else bools_in(part)
            for other in others:
                yield value[:at] + (other,) + value[at + 1:]


def replaced(value, places, part):
    """The value with a part of a part of .. in another form."""
    if not places:
        return part
    at = places[0]
    return value[:at] + (replaced(value[at], places[1:], part),) + value[at + 1:]


class RefusedTest(unittest.TestCase, Checks):
    def test_as_walk_and_as_first_knots(self):
        store, wrong = Store(FRAME), Program(State("s", Signals(y=1), "s", "s", tests=("z",)))
        for check in CHECKS:
            self.assert_error(NoCondition, {"name": "z"}, check, store, wrong, {}, None)
            self.assert_error(NoField, {"name": "y"}, check, store, Program(State("s", Signals(y=1), "s")), {}, None)
            self.assert_error(NoEntries, {}, check, store, PROGRAM, {}, None)
            self.assert_error(InvalidAddress, {"address": 8}, check, store, PROGRAM, {9: "q", 8: "z", 0: "p"}, None)
            self.assert_error(InvalidAddress, {"address": -1}, check, store, PROGRAM, {-1: "p"}, None)
            for value in any_values() + ["z", PROGRAM, PROGRAM["p"], ("p",)]:
                self.assert_error(NoState, {"name": value}, check, store, PROGRAM, {1: "p", 3: value, 9: "p"}, None)

    def test_too_large(self):
        wide = Store(FRAME.wider(4))
        deep = Store(Frame(6, Rows.full(("a", "b")), ("s",), *[Kind("k" + str(at)) for at in range(5)]))
        for store, limit in ((wide, 64), (deep, 1024)):
            for value in [None, (None, (("p",), ("q",)), ((0, 1, ()),), ())]:
                self.assert_error(TooLarge, {"limit": limit}, check_floor, store, PROGRAM, {1: "p"}, value)
            self.assertIs(check_bar(store, PROGRAM, {1: "p"}, None), False)
            made = store | {1: Word(store.frame.kinds[0].name, 1, Signals(s=2))}
            self.assertIs(check_made(store, PROGRAM, {1: "q"}, made), True)
            self.assertIs(check_made(store, PROGRAM, {1: "p"}, made), False)


class CheckMadeTest(unittest.TestCase):
    def test_ordinary(self):
        store, entries = Store(FRAME, {5: P, 6: Word("n", 0, Signals())}, locked=(0, 6)), {1: "p"}
        right = store | {1: P, 2: P, 3: Q}
        self.assertIs(check_made(store, PROGRAM, entries, right), True)
        # What is written beside the walk does not matter.
        self.assertIs(check_made(store, PROGRAM, entries, right | {7: Q, 5: Q}), True)
        self.assertIs(check_made(store, PROGRAM, entries, right | {5: P}), True)
        self.assertIs(check_made(store, PROGRAM, entries, right | {3: P}), False)
        self.assertIs(check_made(store, PROGRAM, {1: "q"}, right), False)
        self.assertIs(check_made(store, PROGRAM, {1: "p", 3: "q"}, right), True)
        self.assertIs(check_made(store, PROGRAM, {1: "p", 4: "q"}, right), False)

    def test_the_store_itself(self):
        store = Store(FRAME, {1: P, 2: P, 3: Q}, locked=(2,))
        self.assertIs(check_made(store, PROGRAM, {1: "p"}, store), True)
        self.assertIs(check_made(store, PROGRAM, {2: "p"}, store.twin()), True)
        self.assertIs(check_made(store, PROGRAM, {3: "p"}, store), False)
        self.assertIs(check_made(Store(FRAME), PROGRAM, {1: "p"}, Store(FRAME)), False)

    def test_not_made_of_it(self):
        store = Store(FRAME, {1: P, 5: P, 6: Q}, locked=(0, 6))
        words = {1: P, 2: P, 3: Q, 5: P, 6: Q}
        right = Store(FRAME, words, locked=(6, 0))
        self.assertIs(check_made(store, PROGRAM, {1: "p"}, right), True)
        erased, lost = right.twin(), {at: words[at] for at in words if at != 6}
        erased.erase(5)
        wrong = [
            erased, Store(FRAME, lost, locked=(0, 6)), Store(FRAME, {**words, 6: P}, locked=(0, 6)),
            Store(FRAME, {**words, 0: P}, locked=(0, 6)), Store(FRAME, words), Store(FRAME, words, locked=(0,)),
            right.with_locks(7), Store(FRAME.wider(), words, locked=(0, 6)),
            Store(FRAME.with_rows(Rows(("a",), ())), words, locked=(0, 6)),
            Store(FRAME.with_kinds(Kind("m")), words, locked=(0, 6)),
            Store(Frame(3, FRAME.rows, ("s", "x"), *FRAME.kinds), words, locked=(0, 6)),
        ]
        for other in wrong:
            self.assertIs(check_made(store, PROGRAM, {1: "p"}, other), False)
        same = Store(Frame(3, Rows.full(("a",)), ("s",), Masks("n", {}), Masks("t", {"a": 1})), words, locked=(0, 6))
        self.assertIs(check_made(store, PROGRAM, {1: "p"}, same), True)

    def test_any_value(self):
        store = Store(FRAME)
        made = least(store, PROGRAM, {1: "p"})
        self.assertIs(check_made(store, PROGRAM, {1: "p"}, made.result), True)
        for value in any_values() + [made, PROGRAM, FRAME, Signals(), {1: P, 2: P, 3: Q}, (made.result,), 0, 1]:
            self.assertIs(check_made(store, PROGRAM, {1: "p"}, value), False)

    def test_by_the_words_of_the_document(self):
        counts = {True: 0, False: 0}
        for seed in range(250):
            rng = maker(seed)
            store, program, entries = some_search(rng, (1, 1, 2), 3)
            search = NaiveSearch(store, program, entries)
            outcome = least(store, program, entries, limit=4000)
            words = [Word(kind.name, base, signals) for kind in store.frame.kinds for base in range(store.frame.size)
                     for signals in search.signals]
            others = [outcome.result if outcome else store]
            for _ in range(6):
                other = others[0].twin()
                for _ in range(rng.randint(0, 2)):
                    at, word = rng.randrange(store.frame.size), rng.choice([None, *words])
                    changed = {place: held for place, held in other.words() if place != at}
                    other = Store(store.frame, changed if word is None else {**changed, at: word}, locked=store.locked)
                others.append(other)
            for other in others:
                right = [at not in store.locked and at in other for at in store.differs(other)]
                wanted = all(right) and naive_carries(other, program, entries, search.class_of)
                self.assertIs(check_made(store, program, entries, other), wanted)
                counts[wanted] += 1
        self.assertTrue(all(counts[told] > 100 for told in counts), counts)


class CheckFloorTest(unittest.TestCase):
    FLOOR = (2, (("p",), ("q",)), ((0, 1, ()),), (1,))

    def check(self, value, entries=((1, "p"),), store=Store(FRAME), program=PROGRAM):
        return check_floor(store, program, dict(entries), value)

    def test_bounds(self):
        self.assertIs(self.check(self.FLOOR), True)
        for bound in (3, 4, 10 ** 60 - 1, None):
            self.assertIs(self.check((bound,) + self.FLOOR[1:]), False)
        for bound, tree in ((1, ()), (0, ())):
            self.assertIs(self.check((bound,) + self.FLOOR[1:]), False)
            self.assertIs(self.check((bound,) + self.FLOOR[1:3] + (tree,)), True)
        for bound in (-1, True, False, "2", (2,), -(10 ** 60 - 1)):
            for tree in ((), (1,)):
                self.assertIs(self.check((bound,) + self.FLOOR[1:3] + (tree,)), False)

    def test_a_first_knot_that_is_closed(self):
        store = Store(FRAME, locked=(1,))
        for bound in (0, 1, 2, 3, 10 ** 60 - 1, None):
            floor = (bound,) + self.FLOOR[1:3]
            self.assertIs(self.check((*floor, ()), store=store), True)
            for tree in ((1,), (0,), [], ((),), None, "", 0, False):
                self.assertIs(self.check((*floor, tree), store=store), False)

    def test_no_bound(self):
        floor = least(Store(SMALL), RING, {0: "p"}).floor
        self.assertEqual(floor, (None, (("p",), ("q",)), ((0, 1, ()),), (0, (1,))))
        for bound in (None, 2, 3, 64, 10 ** 60 - 1):
            self.assertIs(check_floor(Store(SMALL), RING, {0: "p"}, (bound,) + floor[1:]), True)
            for tree in ((), (0,), (1,), (1, (0,)), (0, (0,)), (0, (1, ())), (0, (1,), (1,)), (0, ()), (0, (1, (1,)))):
                self.assertIs(check_floor(Store(SMALL), RING, {0: "p"}, (bound, *floor[1:3], tree)), False)

    def test_another_waiting_address(self):
        store, entries = Store(SMALL), {0: "p", 1: "q"}
        floor = least(store, RING, entries).floor
        self.assertEqual(floor[3], (0, (1,)))
        # No word is right at 1 as long as 0 is committed to p.
        for tree in ((1,), (0, (1,))):
            self.assertIs(check_floor(store, RING, entries, (*floor[:3], tree)), True)
        for tree in ((1, (1,)), (1, (0,)), (0,), (2, (0,)), (-1, (0,)), (1, (True,)), (True, (0,)), (1, (False,))):
            self.assertIs(check_floor(store, RING, entries, (*floor[:3], tree)), False)

    def test_classes_in_any_order(self):
        program = Program(State("p", Signals(s=1), "q", "r", tests=("a",)), State("q", Signals(s=2), "r", "q", tests=("a",)),
                          State("r", Signals(s=2), "q"), State("u", Signals(s=1), "q", tag="u"), State("x", Signals(), "x"))
        entries = {1: "p", 0: "u"}
        floor = least(Store(FRAME), program, entries).floor
        self.assertEqual(floor[1:3], ((("u",), ("p",), ("q", "r")), ((0, 1, ()), (0, 2, ()), (1, 2, ()))))

        def check(groups, partings=floor[2]):
            return check_floor(Store(FRAME), program, entries, (floor[0], groups, partings, floor[3]))

        for groups in [floor[1], (("u",), ("r", "q"), ("p",)), (("q", "r"), ("p",), ("u",)), (("p",), ("u",), ("r", "q"))]:
            self.assertIs(check(groups), True)
        longer = ((0, 1, ()), (0, 2, ()), (1, 2, (("a",), (), ("a",))))
        self.assertIs(check((("q", "r"), ("p",), ("u",)), longer), False)
        # p and u differ by their tags alone, and one row leads from both to states that are alike.
        self.assertIs(check((("u",), ("p",), ("q", "r")), ((0, 1, ((),)), (0, 2, ()), (1, 2, ()))), False)
        wrong = [
            (("u",), ("q",), ("r",), ("p",)), (("u",), ("q", "r", "p")), (("u", "p"), ("q", "r")), (("u",), ("q", "r")),
            (("u",), ("q", "r"), ("p",), ()), (("u",), ("q", "r"), ("p",), ("x",)), (("u",), ("q", "r"), ("p", "p")),
            (("u",), ("q", "r"), ("p",), ("p",)), (("u",), ("q", "r", "r"), ("p",)), (("u",), ("q", "x"), ("p",)), (),
            (("u",), ("q", "r", "x"), ("p",)), (("u",), ("q", "r"), ("z",)), (("u",), ("q", "r"), (0,)), ((),) * 3,
        ]
        pairs = [(i, j, ()) for i in range(4) for j in range(i + 1, 4)]
        for groups in wrong:
            for partings in [floor[2], tuple(part for part in pairs if part[1] < len(groups)), ()]:
                self.assertIs(check(groups, partings), False)

    def test_partings(self):
        program = Program(State("p", Signals(s=1), "p", "q", tests=("a",)), State("q", Signals(s=1), "r"),
                          State("r", Signals(s=2), "r"))
        floor = least(Store(FRAME), program, {1: "p"}).floor
        self.assertEqual(floor[1:3], ((("p",), ("q",), ("r",)), ((0, 1, ((),)), (0, 2, ()), (1, 2, ()))))

        def check(*partings):
            return check_floor(Store(FRAME), program, {1: "p"}, (*floor[:2], partings, floor[3]))

        self.assertIs(check((0, 1, ((), ())), (0, 2, ((),)), (1, 2, ())), True)
        self.assertIs(check((0, 1, ((), (), ())), (0, 2, ((), ())), (1, 2, ())), True)
        first, second, third = floor[2]
        wrong = [
            [(0, 1, ()), second, third], [(0, 1, (("a",), ("a",))), second, third], [first, second, (1, 2, ((),))],
            [second, first, third], [first, second], [first, second, third, third], [first, first, third],
            [(1, 0, ((),)), second, third], [(0, 1, ((),), ()), second, third], [(0, 1), second, third],
            [(0, 1, (("b",),)), second, third], [(0, 1, (None,)), second, third], [(0, 1, "a"), second, third],
            [(False, True, ((),)), second, third], [(0, 1, [()]), second, third], [[0, 1, ((),)], second, third], [],
            [(0, 1, (("a", "a"),)), second, third], [(0, 1, ("a",)), second, third], [None, second, third],
        ]
        for partings in wrong:
            self.assertIs(check(*partings), False)

    def test_any_value(self):
        floor = least(Store(FRAME), RING, {1: "p"}).floor
        self.assertIs(self.check(floor, program=RING), True)
        own = [FRAME, RING, Store(FRAME), Signals(), Knot.first(Store(FRAME), RING, {1: "p"}), P, Rows(("a",), ())]
        for value in any_values() + own:
            for places in [(), (1,), (2,), (3,), (1, 0), (1, 0, 0), (2, 0), (2, 0, 2), (3, 0), (3, 1), (0,)]:
                if value is not None or places != (0,):
                    self.assertIs(self.check(replaced(floor, places, value), program=RING), False)
        self.assertIs(self.check((None,) + floor[1:], program=RING), False)
        for other in [*lists_in(floor), *bools_in(floor), floor[:3], floor + (None,), floor + ((),), floor[1:]]:
            self.assertIs(self.check(other, program=RING), False)

    def test_deeper_than_any_knot(self):
        for depth in (1, 2, 5, 79):
            tree = (0,)
            for at in range(depth):
                tree = (depth - at, tree)
            for bound in (None, 5):
                self.assertIs(self.check((bound, *self.FLOOR[1:3], tree)), False)
                self.assertIs(self.check((bound, *self.FLOOR[1:3], (1, nested(78)))), False)

    def test_what_was_searched(self):
        kinds = {"made": 0, "barred": 0}
        for seed in range(160):
            rng = maker(seed)
            store, program, entries = some_search(rng, (1, 2, 3), 4)
            outcome = least(store, program, entries, limit=4000)
            floor = outcome.floor
            if floor is None:
                continue
            before = store.twin(), dict(entries)
            self.assertIs(check_floor(store, program, entries, floor), True)
            self.assertEqual((store, entries), before)
            if outcome:
                kinds["made"] += 1
                for bound in (len(outcome), len(outcome) + 1, None):
                    self.assertIs(check_floor(store, program, entries, (bound,) + floor[1:]), False)
                for bound in range(len(outcome)):
                    tree = grown(store, program, entries, bound, limit=4000)[0]
                    self.assertIs(check_floor(store, program, entries, (bound, *floor[1:3], tree)), True)
            else:
                kinds["barred"] += 1
                self.assertIs(check_floor(store, program, entries, (10 ** 60 - 1,) + floor[1:]), True)
        self.assertTrue(all(kinds[kind] > 10 for kind in kinds), kinds)


def some_tree(rng, search, bound, knot):
    """A tree of a knot, some waiting address asked at each; None if there is an end."""
    if search.closed(knot, bound):
        return ()
    if not search.waiting(knot):
        return None
    asked = rng.choice(search.waiting(knot))
    tree = [asked]
    for case in search.cases(knot, asked):
        below = some_tree(rng, search, bound, search.after(knot, asked, case))
        if below is None:
            return None
        tree += [below] if below else []
    return tuple(tree)


def trees_beside(rng, tree, size):
    """Trees that are somewhat unlike this one."""
    below = list(tree[1:])
    yield (rng.randrange(size), *below)
    yield (tree[0], *below, (rng.randrange(size),))
    yield (tree[0], ())
    yield ()
    if below:
        at = rng.randrange(len(below))
        yield (tree[0], *below[:at], *below[at + 1:])
        yield (tree[0], *below[:at + 1], *below[at:])
        yield (tree[0], *below[at:], *below[:at])
        yield (tree[0], *below[::-1])
        yield below[at]
        for other in trees_beside(rng, below[at], size):
            yield (tree[0], *below[:at], other, *below[at + 1:])


def floors_beside(rng, floor, rows, size):
    """Floors that are somewhat unlike this one."""
    bound, groups, partings, tree = floor
    for other in [None, 0, 1, 2, (bound or 0) + 1]:
        yield other, groups, partings, tree
    yield bound, groups, partings[1:], tree
    for at, (i, j, sequence) in enumerate(partings):
        for other in [(), sequence + (rng.choice(rows),), (rng.choice(rows),), (rng.choice(rows), rng.choice(rows))]:
            yield bound, groups, partings[:at] + ((i, j, other),) + partings[at + 1:], tree
    order = rng.sample(groups, len(groups))
    yield bound, tuple(order), partings, tree
    yield bound, tuple(tuple(group[::-1]) for group in groups), partings, tree
    yield bound, groups[1:], partings, tree
    yield bound, (groups[0] + groups[-1],) + groups[1:-1], partings, tree
    for at, group in enumerate(groups):
        pairs = tuple((i, j, ()) for i in range(len(groups) + 1) for j in range(i + 1, len(groups) + 1))
        yield bound, groups[:at] + (group[:1], group[1:]) + groups[at + 1:], pairs, tree
    if tree:
        for other in trees_beside(rng, tree, size):
            yield bound, groups, partings, other


class NaiveFloorTest(unittest.TestCase):
    def test_by_the_words_of_the_document(self):
        counts = {True: 0, False: 0}
        for seed in range(150):
            rng = maker(seed)
            store, program, entries = some_search(rng, (1, 1, 2, 2, 2), 3)
            search = NaiveSearch(store, program, entries)
            states = [entries[at] for at in sorted(entries)]
            classes = Classes(program, store.frame.rows, *states)
            outcome = least(store, program, entries, limit=4000)
            bound = rng.randrange(len(outcome)) if len(outcome) else None
            tree = some_tree(rng, search, bound, search.first)
            self.assertIs(tree is None, bool(outcome) and bound is None)
            if tree is None:
                continue
            floor = (bound, classes.groups, tuple(classes.partings()), tree)
            self.assertIs(naive_floor(search, floor), True)
            others = [floor, *floors_beside(rng, floor, store.frame.rows.possible, store.frame.size)]
            for other in others:
                wanted = naive_floor(search, other)
                self.assertIs(check_floor(store, program, entries, other), wanted, (seed, other))
                counts[wanted] += 1
        self.assertTrue(all(counts[told] > 300 for told in counts), counts)


class CheckBarTest(unittest.TestCase):
    ROWS = Rows.full(("a", "b"))
    FRAME = Frame(2, ROWS, ("s",), Kind("n"), Test("t", "a", 0))
    PROGRAM = Program(State("s", Signals(s=1), "u", "s", tests=("a",)), State("u", Signals(), "s", "v", "s", "u", tests=("b", "a")),
                      State("v", Signals(), "u", tag="v"))

    def check(self, value, entries=((1, "s"), (2, "u"))):
        return check_bar(Store(self.FRAME), self.PROGRAM, dict(entries), value)

    def test_ordinary(self):
        bar = least(Store(self.FRAME), self.PROGRAM, {2: "s"}).bar
        self.assertEqual(bar, (2, ((),), "u", (((), ("a",), ()), (("a",), ("a", "b"), ()))))
        self.assertIs(self.check(bar, {2: "s"}), True)
        self.assertIs(self.check(bar), False)
        self.assertIs(self.check((2, ()) + bar[2:]), True)
        self.assertIs(self.check((1,) + bar[1:]), True)
        self.assertIs(self.check((1, (("a",), ()) + bar[1]) + bar[2:]), False)
        # Only the frame is looked at.
        for words, locked in [({2: Word("n", 0, Signals(s=1))}, ()), ({}, (0, 1, 2, 3)), ({1: Word("t", 3, Signals())}, (1,))]:
            self.assertIs(check_bar(Store(self.FRAME, words, locked=locked), self.PROGRAM, {2: "s"}, bar), True)

    def test_entries_and_ways(self):
        pairs = ((("b",), (), (("b",),)), (("a", "b"), ("a",), ((),)))
        self.assertIs(self.check((2, (), "u", pairs)), False)
        right = ((("a",), (), ()), (("a", "b"), ("a",), ()))
        for entry, sequence in [(2, ()), (1, ((),)), (1, (("b",),)), (1, (("a",), ())), (2, (("a", "b"),)), (2, ((), ()))]:
            self.assertIs(self.check((entry, sequence, "u", right)), True, (entry, sequence))
        for entry, sequence in [(1, ()), (2, ((),)), (1, (("a",),)), (0, ()), (3, ()), (True, ((),)), (-1, ()), (4, ()),
                                ("2", ()), (None, ()), (2, None), (2, []), (2, ("a",)), (2, (("b", "a"),)), (2, "")]:
            self.assertIs(self.check((entry, sequence, "u", right)), False, (entry, sequence))
        for state in ("s", "v", "w", None, ("u",), 0, self.PROGRAM["u"]):
            self.assertIs(self.check((2, (), state, right)), False)

    def test_pairs(self):
        def check(*pairs):
            return self.check((2, (), "u", pairs))

        first, second = (("a",), (), ()), (("a", "b"), ("a",), ())
        self.assertIs(check(first, second), True)
        self.assertIs(check(second, second), True)
        self.assertIs(check((("a", "b"), (), ()), second), True)
        # From u: nothing leads to s, a to v, b to s and both to u; s and v differ, v and u by the tag.
        for rows, sequence, right in [
                (((), ("a",)), (), True), (((), ("b",)), (), False), (((), ("b",)), ((),), False),
                ((("a",), ("b",)), (), True), ((("a",), ("b",)), (("a",),), True), ((("b",), ("a", "b")), (), True),
                ((("b",), ("a", "b")), ((),), True), ((("b",), ("a", "b")), (("a",),), True),
                ((("a",), ("a",)), (), False), ((("a",), ("a", "b")), (), True), ((("a",), ("a", "b")), ((),), True),
                ((("a",), ("a", "b")), (("b",),), True), ((("a",), ("a", "b")), ((), ()), True),
                ((("a",), ("a", "b")), (("b",), ("b",), ("b",)), True)]:
            program, states = self.PROGRAM, [self.PROGRAM("u", row) for row in rows]
            for row in sequence:
                states = [program(state, row) for state in states]
            shown = [(program[state].signals.told, program[state].tag) for state in states]
            self.assertIs(rows[0] != rows[1] and shown[0] != shown[1], right, (rows, sequence))
            self.assertIs(check((*rows, sequence), second), right, (rows, sequence))
        # The masks of t are unlike.
        for rows in [((), ("a",)), (("a",), ("b",)), ((), ("a", "b"))]:
            self.assertIs(check(first, (*rows, ())), False)
        for pairs in [(), (first,), (first, second, second), (second, first), (first, second, first)]:
            self.assertIs(check(*pairs), False)
        for part in [(("a",), ()), (("a",), (), (), ()), (("a",), ("c",), ()), (("a",), None, ()), (("a",), (), None),
                     (("a",), (), [()]), (("a",), (), ("a",)), (["a"], (), ()), [("a",), (), ()], (("b", "a"), (), ()), None]:
            self.assertIs(check(part, second), False)

    def test_rows_that_are_not_possible(self):
        frame = self.FRAME.with_rows(Rows(("a", "b"), (), ("a",), ("b",)))
        bar = (2, (), "u", ((("a",), (), ()), (("a", "b"), ("a",), ())))
        self.assertIs(check_bar(Store(frame), self.PROGRAM, {2: "u"}, bar), False)
        self.assertIs(check_bar(Store(frame.without("t")), self.PROGRAM, {2: "u"}, (2, (), "u", bar[3][:1])), True)
        other = (2, (("a", "b"),), "u", bar[3][:1])
        self.assertIs(check_bar(Store(frame.without("t")), self.PROGRAM, {2: "u"}, other), False)
        self.assertIs(check_bar(Store(self.FRAME.without("t")), self.PROGRAM, {2: "u"}, other), True)
        parted = (2, (), "u", (((), ("a",), (("a", "b"),)),))
        self.assertIs(check_bar(Store(frame.without("t")), self.PROGRAM, {2: "u"}, parted), False)

    def test_any_value(self):
        bar = (1, ((),), "u", ((("a",), (), ()), (("a", "b"), ("a",), ())))
        self.assertIs(self.check(bar), True)
        own = [FRAME, RING, Store(FRAME), Signals(), P, Rows(("a",), ()), [], {}, 0]
        for value in any_values() + own:
            for places in [(), (0,), (1,), (2,), (3,), (1, 0), (3, 0), (3, 1), (3, 0, 0), (3, 0, 1), (3, 0, 2), (3, 0, 0, 0)]:
                self.assertIs(self.check(replaced(bar, places, value)), False)
        for other in [*lists_in(bar), *bools_in(bar), bar[:3], bar + ((),), bar[1:]]:
            self.assertIs(self.check(other), False)

    def test_what_was_searched(self):
        bars = 0
        for seed in range(300):
            rng = maker(seed)
            store, program, entries = some_search(rng, (1, 2), 5)
            bar = getattr(least(store, program, entries, limit=4000), "bar", None)
            if bar is not None:
                bars += 1
                self.assertIs(check_bar(store, program, entries, bar), True)
                rows = store.frame.rows.possible
                places = [(3, at, side) for at in range(len(bar[3])) for side in (0, 1)]
                for place in places:
                    part, row = bar[3][place[1]], rng.choice(rows)
                    pair = [row, part[1]] if place[2] == 0 else [part[0], row]
                    kind = store.frame.kinds[place[1]]
                    states = [program(bar[2], held) for held in pair]
                    for held in part[2]:
                        states = [program(state, held) for state in states]
                    shown = [(program[state].signals.told, program[state].tag) for state in states]
                    wanted = pair[0] != pair[1] and kind(pair[0]) == kind(pair[1]) and shown[0] != shown[1]
                    self.assertIs(check_bar(store, program, entries, replaced(bar, place, row)), wanted)
        self.assertGreater(bars, 20)


class OutcomesTest(unittest.TestCase):
    def test_what_least_returns_is_accepted(self):
        counts = {"made": 0, "floor": 0, "bar": 0}
        for seed in range(1000, 1200):
            rng = maker(seed)
            store, program, entries = some_search(rng, (1, 2, 2, 3), 4)
            outcome = least(store, program, entries, limit=4000)
            if outcome:
                counts["made"] += 1
                self.assertIs(check_made(store, program, entries, outcome.result), True)
                if outcome.written:
                    self.assertIs(check_floor(store, program, entries, outcome.floor), True)
                    more = (outcome.floor[0] + 1,) + outcome.floor[1:]
                    self.assertIs(check_floor(store, program, entries, more), False)
                else:
                    self.assertIs(check_made(store, program, entries, store), True)
            elif outcome.bar is None:
                counts["floor"] += 1
                self.assertIs(check_floor(store, program, entries, outcome.floor), True)
            else:
                counts["bar"] += 1
                self.assertIs(check_bar(store, program, entries, outcome.bar), True)
        self.assertTrue(all(counts[sort] > 5 for sort in counts), counts)
