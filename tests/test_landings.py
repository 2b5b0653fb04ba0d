import unittest

from makers import maker, some_frame, some_program, some_store
from naive import NaiveSearch
from orplaces.classes import Classes
from orplaces.errors import NoKind, NoLanding
from orplaces.frames import Frame
from orplaces.kinds import AnyOf, Kind, Masks, Test, Window
from orplaces.landings import Landings, can_keep, clashes, fresh_pages, hidden
from orplaces.programs import Program, State
from orplaces.rows import Rows
from orplaces.signals import Signals
from orplaces.stores import Store, Word
from support import Checks, any_values

FRAME = Frame(2, Rows.full(("a",)), ("x",), Kind("n"), Test("t", "a", 0))
PROGRAM = Program(State("s", Signals(), "s", "z", tests=("a",)), State("z", Signals(x=1), "z"))
CLASSES = Classes(PROGRAM, FRAME.rows, "s")


class LandingsTest(unittest.TestCase, Checks):
    def test_examples_of_the_document(self):
        found = Landings(FRAME)
        self.assertEqual([found.in_order, found[(1, 1)], (1, 0) in found],
                         [((0, 0), (1, 1), (2, 2), (3, 3), (0, 1), (2, 3)), ("n", 1), False])
        self.assertEqual([list(found.right(CLASSES, 0, {})), list(found.right(CLASSES, 0, {1: 0})),
                          clashes((1, 1), CLASSES, 1, {1: 0})], [[(0, 1), (2, 3)], [(2, 3)], True])
        self.assertEqual([hidden(FRAME, "n", CLASSES, 0), hidden(FRAME, "t", CLASSES, 0), hidden(FRAME, "n", CLASSES, 1)],
                         [((), ("a",)), None, None])
        self.assertEqual([fresh_pages(Store(FRAME), {1: 0}), fresh_pages(Store(FRAME, locked=(3,)), {})], [(2,), (0,)])

    def test_reading(self):
        found = Landings(FRAME)
        self.assertIs(found.frame, FRAME)
        self.assertEqual([len(found), found[(2, 3)], found[(0, 0)], (2, 3) in found], [6, ("t", 2), ("n", 0), True])

    def test_by_kinds_and_bases(self):
        for seed in range(40):
            rng = maker(seed)
            frame = some_frame(rng, rng.randint(1, 4), ("a", "b", "c"))
            told = {}
            for kind in frame.kinds:
                for base in range(frame.size):
                    told.setdefault(frame.landing(kind.name, base), (kind.name, base))
            found = Landings(frame)
            self.assertEqual([found.in_order, len(found)], [tuple(told), len(told)])
            for landing in told:
                self.assertEqual(found[landing], told[landing])
                self.assertIs(landing in found, True)

    def test_large(self):
        rows = Rows.full(("a", "b", "c", "d", "e"))
        frame = Frame(8, rows, ("x",), *[Window("w" + str(low), low, *rows.conditions) for low in range(4)])
        found = Landings(frame)
        self.assertEqual(found[frame.landing("w2", 129)], ("w2", 129))
        program = Program(State("s", Signals(), "s"))
        self.assertEqual(list(found.right(Classes(program, rows, "s"), 0, {})), list(found.in_order))

    def test_any_value_as_a_landing(self):
        found = Landings(FRAME)
        wrong = [(1, 0), [0, 0], (0, 0, 0), (0,), (True, True), (1, True), (False, 0), (4, 4), ((0, 0),), "00",
                 (0, [0]), (0, None), FRAME, (FRAME, FRAME), Signals()]
        for value in any_values() + wrong:
            self.assertIs(value in found, False)
            self.assert_error(NoLanding, {"value": value}, lambda: found[value])

    def test_clashes_and_right(self):
        for seed in range(80):
            rng = maker(seed)
            frame = some_frame(rng, 3)
            program = some_program(rng, 4, numbers=2)
            naive = NaiveSearch(Store(frame), program, {0: "s0"})
            classes = Classes(program, frame.rows, "s0")
            committed = {at: rng.randrange(len(classes)) for at in rng.sample(range(8), rng.randint(0, 5))}
            before = dict(committed)
            for number in range(len(classes)):
                right = [landing for landing in Landings(frame).in_order if not naive.clash(landing, number, committed)]
                self.assertEqual(list(Landings(frame).right(classes, number, committed)), right)
                for landing in Landings(frame).in_order:
                    self.assertIs(clashes(landing, classes, number, committed), landing not in right)
            self.assertEqual(committed, before)

    def test_clash_by_two_rows_in_any_place(self):
        rows = Rows.full(("a", "b"))
        program = Program(State("p", Signals(), "p", "q", tests=("b",)), State("q", Signals(x=1), "q"))
        classes = Classes(program, rows, "p")
        for landing, right in [((0, 0, 1, 1), True), ((0, 2, 1, 3), True), ((0, 1, 0, 1), False), ((0, 1, 2, 0), False),
                               ((0, 1, 1, 2), False), ((5, 5, 7, 7), True)]:
            self.assertIs(clashes(landing, classes, 0, {}), not right)
        self.assertIs(clashes((0, 0, 1, 1), classes, 0, {0: 0, 1: 1, 2: 0}), False)
        self.assertIs(clashes((0, 0, 1, 1), classes, 0, {1: 0}), True)
        self.assertIs(clashes((0, 0, 1, 1), classes, 1, {}), False)


class KeptTest(unittest.TestCase):
    def test_each_reason(self):
        store = Store(FRAME, {0: Word("t", 2, Signals()), 1: Word("n", 2, Signals()), 3: Word("n", 3, Signals(x=1))},
                      locked=(0, 3))
        self.assertIs(can_keep(store, 0, CLASSES, 0, {}), True)
        self.assertIs(can_keep(store, 0, CLASSES, 0, {0: 0, 2: 0, 3: 1}), True)
        self.assertIs(can_keep(store, 0, CLASSES, 0, {3: 0}), False)
        self.assertIs(can_keep(store, 0, CLASSES, 1, {}), False)
        self.assertIs(can_keep(store, 1, CLASSES, 0, {}), False)
        self.assertIs(can_keep(store, 2, CLASSES, 0, {}), False)
        self.assertIs(can_keep(store, 3, CLASSES, 1, {}), True)
        self.assertIs(can_keep(store, 3, CLASSES, 0, {}), False)

    def test_by_the_words_of_the_document(self):
        for seed in range(60):
            rng = maker(seed)
            frame = some_frame(rng, 3)
            store = some_store(rng, frame, numbers=2)
            program = some_program(rng, 3, numbers=2)
            naive = NaiveSearch(store, program, {0: "s0"})
            classes = Classes(program, frame.rows, "s0")
            committed = {at: rng.randrange(len(classes)) for at in rng.sample(range(8), rng.randint(0, 4))}
            for at in range(8):
                for number in range(len(classes)):
                    self.assertIs(can_keep(store, at, classes, number, committed), naive.keepable(at, number, committed))


class FreshTest(unittest.TestCase):
    FRAME = Frame(4, Rows.full(("a",)), ("x",), Kind("n"), Test("t", "a", 0))

    def test_each_reason(self):
        self.assertEqual(fresh_pages(Store(self.FRAME), {}), (0, 2, 4, 6, 8, 10, 12, 14))
        store = Store(self.FRAME, {3: Word("n", 8, Signals()), 12: Word("t", 5, Signals())}, locked=(14,))
        self.assertEqual(fresh_pages(store, {}), (0, 6, 10))
        self.assertEqual(fresh_pages(store, {11: 1, 8: 0}), (0, 6))
        self.assertEqual(fresh_pages(store, {1: 0, 7: 0, 10: 5}), ())

    def test_by_the_words_of_the_document(self):
        for seed in range(60):
            rng = maker(seed)
            frame = some_frame(rng, 4, ("a",))
            store = some_store(rng, frame, full=0.2, locked=0.1)
            committed = {at: 0 for at in rng.sample(range(16), rng.randint(0, 3))}
            naive = NaiveSearch(store, PROGRAM, {0: "s"})
            self.assertEqual(fresh_pages(store, committed), tuple(naive.fresh(committed)))


class HiddenTest(unittest.TestCase, Checks):
    def test_by_the_words_of_the_document(self):
        for seed in range(80):
            rng = maker(seed)
            frame = some_frame(rng, 3)
            program = some_program(rng, 4, numbers=2)
            classes = Classes(program, frame.rows, "s0")
            rows = frame.rows.possible
            for kind in frame.kinds:
                for number in range(len(classes)):
                    pairs = [(r, s) for i, r in enumerate(rows) for s in rows[i + 1:]
                             if kind.mask(r) == kind.mask(s) and classes.led(number, r) != classes.led(number, s)]
                    self.assertEqual(hidden(frame, kind.name, classes, number), pairs[0] if pairs else None)

    def test_the_first_row_comes_first(self):
        rows = Rows.full(("a", "b"))
        frame = Frame(2, rows, ("x",), AnyOf("o", 0, "a", "b"), Masks("m", {"a": 2}))
        program = Program(State("p", Signals(), "p", "q", tests=("b",)), State("q", Signals(x=1), "q"))
        classes = Classes(program, rows, "p")
        self.assertEqual(hidden(frame, "o", classes, 0), (("a",), ("b",)))
        self.assertEqual(hidden(frame, "m", classes, 0), ((), ("b",)))

    def test_any_value_as_a_kind(self):
        for value in any_values() + ["m", ("n",), FRAME.kinds[0], FRAME]:
            self.assert_error(NoKind, {"name": value}, hidden, FRAME, value, CLASSES, 0)
