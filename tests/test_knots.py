import unittest

from makers import maker, some_frame, some_program, some_store
from naive import NaiveSearch
from orplaces.classes import Classes
from orplaces.errors import InvalidAddress, NoCase, NoCondition, NoEntries, NoField, NoState, NotEnd, TooLarge
from orplaces.frames import Frame
from orplaces.kinds import Kind, Masks, Test
from orplaces.knots import Knot
from orplaces.programs import Program, State
from orplaces.rows import Rows
from orplaces.signals import Signals
from orplaces.stores import Store, Word
from support import Checks, any_values

FRAME = Frame(2, Rows.full(("a", "b")), ("x",), Kind("n"), Masks("ab", {"a": 1, "b": 2}))
PROGRAM = Program(State("s", Signals(x=1), "s", "t", tests=("b",)), State("t", Signals(x=2), "t"))
ONE, TWO = Signals(x=1), Signals(x=2)
LOOP = Program(State("s", Signals(), "s"))


def knot_told(knot):
    """All that a knot tells of itself."""
    return [dict(knot.committed), knot.kept, knot.written, list(knot.waiting), knot.closed, list(knot.cases())]


class FirstTest(unittest.TestCase, Checks):
    def test_examples_of_the_document(self):
        first = Knot.first(Store(FRAME), PROGRAM, {0: "s"}, 3)
        self.assertEqual([first.committed, first.waiting, first.asked, first.closed, list(first.cases())],
                         [{0: 0}, (0,), 0, None, [("written", (0, 1, 2, 3)), ("written", (1, 1, 3, 3))]])
        later = first.after(("written", (1, 1, 3, 3)))
        self.assertEqual([later.committed, later.written, later.asked,
                          first.after(("written", (0, 1, 2, 3))).closed], [{0: 0, 1: 0, 3: 1}, (0,), 1, "dear"])

    def test_entries_by_ascending_addresses(self):
        knot = Knot.first(Store(FRAME), PROGRAM, {3: "s", 1: "t", 2: "s"})
        self.assertEqual([knot.classes.groups, knot.bound], [(("t",), ("s",)), None])
        self.assertIsInstance(knot.classes, Classes)
        self.assertEqual([knot.committed, knot.waiting, knot.kept, knot.written], [{1: 0, 2: 1, 3: 1}, (1, 2, 3), (), ()])
        self.assertEqual([knot.landing_of(0), knot.landing_of(1), bool(knot), knot.asked], [None, None, False, 1])
        self.assertEqual(Knot.first(Store(FRAME), PROGRAM, {0: "s"}, 7).bound, 7)

    def test_refused(self):
        wrong = Program(State("p", Signals(z=1, y=1), "p", "p", "p", "p", tests=("a", "c")),
                        State("q", Signals(), "q", "q", tests=("d",)))
        fields = Program(State("p", TWO, "p"), State("q", Signals(z=1, y=1), "q"))
        large = Store(Frame(7, FRAME.rows, ("x",), Kind("n")))
        self.assert_error(NoCondition, {"name": "c"}, Knot.first, large, wrong, {})
        self.assert_error(NoField, {"name": "y"}, Knot.first, large, fields, {})
        self.assert_error(NoEntries, {}, Knot.first, large, PROGRAM, {})
        for address in [128, -1, 10 ** 60 - 1]:
            self.assert_error(InvalidAddress, {"address": address}, Knot.first, large, PROGRAM, {address: None, 127: "s"})
        self.assert_error(InvalidAddress, {"address": 129}, Knot.first, large, PROGRAM, {130: "z", 129: "s", 3: "t"})
        for value in any_values() + ["z", ("s",), PROGRAM, PROGRAM["s"], 1]:
            self.assert_error(NoState, {"name": value}, Knot.first, large, PROGRAM, {128: "s", 3: value, 1: "s"})
        self.assert_error(TooLarge, {"limit": 64}, Knot.first, large, PROGRAM, {127: "s"})

    def test_sizes(self):
        one, two, four = Rows(("a", "b"), ()), Rows(("a", "b"), (), ("a",)), Rows.full(("a", "b"))
        kinds = [Kind("k" + str(at)) for at in range(8)]
        for width, rows, many in [(6, two, 8), (6, one, 8), (6, four, 4), (5, four, 8), (1, four, 8)]:
            store = Store(Frame(width, rows, ("x",), *kinds[:many]))
            self.assertEqual(Knot.first(store, LOOP, {0: "s"}).asked, 0)
        for width, rows, many in [(6, four, 5), (6, Rows(("a", "b"), (), ("a",), ("b",)), 6)]:
            store = Store(Frame(width, rows, ("x",), *kinds[:many]))
            self.assert_error(TooLarge, {"limit": 1024}, Knot.first, store, LOOP, {0: "s"})
            self.assert_error(NoState, {"name": "z"}, Knot.first, store, LOOP, {0: "z"})
        for width in (7, 8):
            for rows in (one, four):
                store = Store(Frame(width, rows, ("x",), *kinds))
                self.assert_error(TooLarge, {"limit": 64}, Knot.first, store, LOOP, {0: "s"})
        most = Rows.full(("a", "b", "c", "d", "e"))
        self.assertEqual(Knot.first(Store(Frame(5, most, ("x",), Kind("n"))), LOOP, {31: "s"}).asked, 31)
        self.assert_error(TooLarge, {"limit": 1024}, Knot.first, Store(Frame(5, most, ("x",), *kinds[:2])), LOOP, {0: "s"})


class CasesTest(unittest.TestCase, Checks):
    def test_by_the_words_of_the_document(self):
        ends = closings = 0
        for seed in range(150):
            rng = maker(seed)
            frame = some_frame(rng, rng.choice([2, 3]))
            store = some_store(rng, frame, numbers=2, full=rng.choice([0, 0.4, 0.8]), locked=rng.choice([0, 0.2]))
            program = some_program(rng, rng.randint(1, 4), numbers=2, tags=(None, None, "t"))
            entries = {at: rng.choice(program.names) for at in rng.sample(range(frame.size), rng.randint(1, 2))}
            bound = rng.choice([None, 0, 2, 3, 5])
            naive = NaiveSearch(store, program, entries)
            knots = [(Knot.first(store, program, entries, bound), naive.first)]
            for _ in range(6):
                knot, plain = rng.choice(knots)
                closed, waiting = naive.closed(plain, bound), naive.waiting(plain)
                cases = [] if closed or not waiting else naive.cases(plain, waiting[0])
                kept, written = [tuple(sorted(places)) for places in plain[1:3]]
                self.assertEqual(knot_told(knot), [plain[0], kept, written, waiting, closed, cases])
                self.assertEqual([knot.landing_of(number) for number in range(len(knot.classes))],
                                 [plain[3].get(number) for number in range(len(knot.classes))])
                self.assertEqual(knot.asked, waiting[0] if cases or not closed and waiting else None)
                self.assertIs(bool(knot), not closed and not waiting)
                closings += closed is not None
                if knot:
                    ends += 1
                    self.assertEqual(knot.end_store(), naive.end_store(plain))
                else:
                    self.assert_error(NotEnd, {}, knot.end_store)
                knots += [(knot.after(case), naive.after(plain, waiting[0], case)) for case in cases]
        self.assertGreater(ends, 30)
        self.assertGreater(closings, 100)

    def test_any_value_as_a_case(self):
        store = Store(FRAME, {0: Word("ab", 0, ONE)})
        knot = Knot.first(store, PROGRAM, {0: "s"})
        self.assertEqual(list(knot.cases()), [("kept", (0, 1, 2, 3)), ("written", (1, 1, 3, 3))])
        wrong = [("written", (0, 1, 2, 3)), ("kept", (1, 1, 3, 3)), ["kept", (0, 1, 2, 3)], ("kept", [0, 1, 2, 3]),
                 ("kept", (0, True, 2, 3)), ("kept", (False, 1, 2, 3)), ("kept",), ("kept", (0, 1, 2, 3), ()), "kept",
                 ("written", (True, 1, 3, 3)), ("written", (1, 1, 3)), ("asked", (1, 1, 3, 3)), ((0, 1, 2, 3), "kept"),
                 (None, (0, 1, 2, 3)), ("kept", None), (Signals(), Signals()), knot, store]
        for value in any_values() + wrong:
            self.assert_error(NoCase, {"case": value}, knot.after, value)
        closed = Knot.first(store, PROGRAM, {0: "s"}, 0)
        self.assertEqual([closed.closed, closed.asked, list(closed.cases())], ["dear", None, []])
        for value in any_values() + [("kept", (0, 1, 2, 3))]:
            self.assert_error(NoCase, {"case": value}, closed.after, value)

    def test_passed_over_is_the_same_word_only(self):
        store = Store(FRAME, {0: Word("ab", 1, ONE), 1: Word("ab", 1, TWO), 3: Word("n", 3, TWO)})
        knot = Knot.first(store, PROGRAM, {0: "s"})
        self.assertEqual(list(knot.cases()), [("kept", (1, 1, 3, 3)), ("written", (0, 1, 2, 3))])
        later = knot.after(("kept", (1, 1, 3, 3)))
        self.assertEqual([later.kept, later.waiting, later.landing_of(0), later.asked], [(0,), (1, 3), None, 1])
        self.assertEqual(list(later.cases()), [("written", (0, 1, 2, 3)), ("written", (1, 1, 3, 3))])
        last = later.after(("written", (1, 1, 3, 3)))
        self.assertEqual([last.written, last.landing_of(0), list(last.cases())[0]], [(1,), (1, 1, 3, 3), ("kept", (3, 3, 3, 3))])

    def test_a_class_that_has_a_landing(self):
        frame = Frame(2, Rows(("a",), ()), ("x",), Kind("n"), Kind("m"))
        store = Store(frame, {1: Word("m", 2, ONE), 2: Word("n", 3, ONE)})
        program = Program(State("s", ONE, "s"))
        knot = Knot.first(store, program, {0: "s", 1: "s", 2: "s"})
        self.assertEqual(list(knot.cases()), [("written", (at,)) for at in range(4)])
        two = knot.after(("written", (2,)))
        # The word at 1 has the landing and the signals of the class: it is passed over.
        self.assertEqual([two.asked, list(two.cases())], [1, [("kept", (2,))]])
        three = two.after(("kept", (2,)))
        self.assertEqual([three.asked, list(three.cases())], [2, [("kept", (3,)), ("written", (2,))]])
        end = three.after(("written", (2,)))
        self.assertEqual([bool(end), end.kept, end.written, end.asked], [True, (1,), (0, 2), None])
        made = Store(frame, {0: Word("n", 2, ONE), 1: Word("m", 2, ONE), 2: Word("n", 2, ONE)})
        self.assertEqual(end.end_store(), made)
        self.assertIsNot(end.end_store(), end.end_store())

    def test_fresh_pages(self):
        frame = Frame(3, Rows(("a",), ()), ("x",), Kind("n"))
        program = Program(State("s", ONE, "t"), State("t", TWO, "t"))

        def landed(store, entries):
            return [case[1][0] for case in Knot.first(store, program, entries).cases()]

        self.assertEqual(landed(Store(frame), {5: "s"}), [0])
        self.assertEqual(landed(Store(frame), {0: "s"}), [1])
        self.assertEqual(landed(Store(frame, locked=(0, 1)), {3: "s"}), [0, 1, 2])
        self.assertEqual(landed(Store(frame, {6: Word("n", 4, ONE)}), {3: "s"}), [0, 4, 6])
        self.assertEqual(landed(Store(frame, {0: Word("n", 0, ONE)}), {3: "s", 2: "t"}), [0, 1, 2])
        self.assertEqual(landed(Store(frame, {0: Word("n", 0, ONE)}), {5: "t"}), [0, 1, 5])
        self.assertEqual(landed(Store(frame), {5: "t", 7: "t"}), [0, 5, 7])


class ClosedTest(unittest.TestCase):
    FRAME = Frame(2, Rows(("a",), (), ("a",)), ("x",), Kind("n"), Test("t", "a", 0))
    RING = Program(State("p", ONE, "p", "q", tests=("a",)), State("q", TWO, "p"))

    def closed(self, store, entries, bound=None, program=RING):
        return Knot.first(store, program, entries, bound).closed

    def test_locked(self):
        blank = Store(self.FRAME, locked=(1,))
        self.assertEqual([self.closed(blank, {1: "p"}), self.closed(blank, {1: "p"}, 0), self.closed(blank, {0: "p"})],
                         ["locked", "locked", None])
        right = Store(self.FRAME, {0: Word("t", 2, ONE)}, locked=(0,))
        self.assertEqual([self.closed(right, {0: "p"}), self.closed(right, {0: "q"}), self.closed(right, {0: "p", 3: "p"})],
                         [None, "locked", "locked"])

    def test_full(self):
        many = Program(*[State("s" + str(at), Signals(x=at), "s" + str((at + 1) % 4)) for at in range(4)])
        more = Program(*[State("s" + str(at), Signals(x=at), "s" + str((at + 1) % 5)) for at in range(5)])
        store = Store(self.FRAME)
        self.assertEqual([self.closed(store, {0: "s0"}, None, many), self.closed(store, {0: "s0"}, 0, more),
                          self.closed(store, {0: "s0", 1: "s0"}, None, many),
                          self.closed(store, {0: "s0", 1: "s2"}, None, many)], [None, "full", "full", None])
        self.assertEqual(self.closed(Store(self.FRAME, locked=(0,)), {0: "s0"}, None, more), "locked")

    def test_dear(self):
        store = Store(self.FRAME)
        self.assertEqual([self.closed(store, {0: "p"}, bound) for bound in (None, 0, 1, 2)], [None, "dear", "dear", None])
        # A word that has the signals of q stands somewhere; what waits and can be kept is not counted.
        store[3] = Word("n", 3, TWO)
        self.assertEqual([self.closed(store, {0: "p"}, bound) for bound in (0, 1)], ["dear", None])
        store[0] = Word("t", 0, ONE)
        self.assertEqual([self.closed(store, {0: "p"}, bound) for bound in (0, 1)], [None, None])
        self.assertEqual([self.closed(store, {0: "p", 2: "p"}, bound) for bound in (0, 1)], ["dear", None])
        written = Knot.first(Store(self.FRAME), self.RING, {0: "p"}, 2).after(("written", (0, 1)))
        self.assertEqual([written.closed, written.waiting, written.kept, written.written], [None, (1,), (), (0,)])


class ChangesTest(unittest.TestCase):
    def test_nothing_changes_a_knot(self):
        store, entries = Store(FRAME, {0: Word("ab", 0, ONE)}), {0: "s"}
        knot = Knot.first(store, PROGRAM, entries)
        told = knot_told(knot)
        store.erase(0)
        entries[1] = "t"
        knot.committed[3] = 1
        knot.after(("written", (1, 1, 3, 3)))
        self.assertEqual(knot_told(knot), told)
        self.assertEqual([store, entries], [Store(FRAME), {0: "s", 1: "t"}])
        store = Store(FRAME, {0: Word("n", 0, TWO)})
        end = Knot.first(store, PROGRAM, {0: "t"}).after(("kept", (0, 0, 0, 0)))
        store.erase(0)
        end.end_store().erase(0)
        self.assertEqual(end.end_store(), Store(FRAME, {0: Word("n", 0, TWO)}))

    def test_locks_and_frame_of_the_end(self):
        store = Store(FRAME, {0: Word("n", 0, TWO)}, locked=(0, 3))
        end = Knot.first(store, PROGRAM, {0: "t"}, 0).after(("kept", (0, 0, 0, 0)))
        self.assertEqual([end.end_store().locked, end.end_store().frame, end.end_store()], [(0, 3), FRAME, store])
