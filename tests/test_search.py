import inspect
import unittest

from makers import maker, some_search
from naive import NaiveSearch, naive_carries, naive_walk
from orplaces.classes import Classes
from orplaces.equivalence import carries, parting
from orplaces.errors import InvalidAddress, InvalidNumber, NoCondition, NoEntries, NoField, NoState, TooLarge
from orplaces.frames import Frame
from orplaces.kinds import Kind, Masks, Test
from orplaces.knots import Knot
from orplaces.programs import Program, State
from orplaces.rows import Rows
from orplaces.search import Barred, Made, Outcome, grown, least
from orplaces.signals import Signals
from orplaces.stores import Store, Word
from support import Checks, any_values

FRAME = Frame(2, Rows.full(("a", "b")), ("x",), Kind("n"), Masks("ab", {"a": 1, "b": 2}))
PROGRAM = Program(State("s", Signals(x=1), "s", "t", tests=("b",)), State("t", Signals(x=2), "t"))
SMALL = Frame(1, Rows.full(("a",)), ("x",), Kind("n"), Test("t", "a", 0))
RING = Program(State("p", Signals(x=1), "p", "q", tests=("a",)), State("q", Signals(x=2), "q", "p", tests=("a",)))
NONE = Signals()


def knots_of(tree):
    return 1 + sum(map(knots_of, tree[1:])) if tree else 0


class ExamplesTest(unittest.TestCase, Checks):
    def test_made(self):
        made = least(Store(FRAME), PROGRAM, {0: "s"})
        self.assertEqual([made.written, made.table, made.floor, list(made.lines())], [
            (0, 1, 3), ((0, "s"), (1, "s"), (3, "t")), (2, (("s",), ("t",)), ((0, 1, ()),), (0,)),
            ["  0 ab 1 x=1", "  1 ab 1 x=1", "  3 n 3 x=2"]])
        self.assertEqual([grown(Store(FRAME), PROGRAM, {0: "s"}, 2), grown(Store(FRAME), PROGRAM, {0: "s"}, 3)[2:],
                          len(least(Store(FRAME), PROGRAM, {1: "s"}))], [((0,), None, True, 1), (True, 3), 2])
        self.assertEqual(len(least(Store(FRAME), PROGRAM, {0: "s"}, limit=4)), 3)
        self.assert_error(TooLarge, {"limit": 3}, least, Store(FRAME), PROGRAM, {0: "s"}, limit=3)

    def test_barred(self):
        barred = least(Store(SMALL), RING, {0: "p"})
        self.assertEqual([bool(barred), barred.bar, barred.floor, len(least(Store(SMALL.wider()), RING, {0: "p"}))],
                         [False, None, (None, (("p",), ("q",)), ((0, 1, ()),), (0, (1,))), 4])
        self.assertEqual(least(Store(SMALL.without("t")), RING, {0: "p"}).bar, (0, (), "p", (((), ("a",), ()),)))

    def test_of_the_floors(self):
        frame = Frame(3, Rows.full(("a",)), ("s",), Kind("n"), Test("t", "a", 0))
        program = Program(State("p", Signals(s=1), "p", "q", tests=("a",)), State("q", Signals(s=2), "q"))
        made = least(Store(frame), program, {1: "p"})
        self.assertEqual([made.written, [str(word) for address, word in made.result.words()]],
                         [(1, 2, 3), ["t 2 s=1", "t 2 s=1", "n 3 s=2"]])
        self.assertEqual(made.floor, (2, (("p",), ("q",)), ((0, 1, ()),), (1,)))


class GrownTest(unittest.TestCase, Checks):
    def test_by_the_words_of_the_document(self):
        ends = 0
        for seed in range(120):
            rng = maker(seed)
            store, program, entries = some_search(rng, (1, 2, 3))
            naive = NaiveSearch(store, program, entries)
            for bound in (0, 1, 2, 4, None):
                told = grown(store, program, entries, bound, limit=4000)
                self.assertEqual(told, naive.grow(bound))
                ends += told[1] is not None
                self.assertIs(told[0] is None, told[1] is not None)
        self.assertGreater(ends, 50)

    def test_without_a_bound(self):
        told = grown(Store(SMALL), RING, {0: "p"})
        self.assertEqual(told, ((0, (1,)), None, False, 2))
        self.assertEqual(grown(Store(SMALL), RING, {0: "p"}, None), told)

    def test_a_closed_first_knot(self):
        self.assertEqual(grown(Store(SMALL), RING, {0: "p"}, 1), ((), None, True, 0))
        self.assertEqual(grown(Store(SMALL, locked=(0,)), RING, {0: "p"}, 0, limit=1), ((), None, False, 0))

    def test_an_end_at_once(self):
        store = Store(SMALL, {1: Word("n", 1, NONE)}, locked=(0, 1))
        told = grown(store, Program(State("s", NONE, "s")), {1: "s"}, 0, limit=1)
        self.assertEqual(told, (None, store, False, 1))
        self.assertIsNot(told[1], store)

    def test_limits(self):
        store, entries = Store(FRAME), {0: "s"}
        self.assertEqual(grown(store, PROGRAM, entries, 3, limit=3)[3], 3)
        self.assert_error(TooLarge, {"limit": 2}, grown, store, PROGRAM, entries, 3, limit=2)
        self.assertEqual(grown(store, PROGRAM, entries, 3, limit=4000)[3], 3)
        tree = grown(Store(SMALL), RING, {0: "p"}, limit=2)[0]
        self.assertEqual(knots_of(tree), 2)
        self.assert_error(TooLarge, {"limit": 1}, grown, Store(SMALL), RING, {0: "p"}, limit=1)
        for deed in [grown, least]:
            self.assertEqual(inspect.signature(deed).parameters["limit"].default, 2000)
            for value in any_values() + [0, 4001, "9", (9,), store]:
                self.assert_error(InvalidNumber, {"value": value}, deed, store, Program(
                    State("s", NONE, "s", "s", tests=("z",))), {}, limit=value)

    def test_refused_as_first_knots_are(self):
        large = Store(Frame(7, FRAME.rows, ("x",), Kind("n")))
        wrong = Program(State("s", NONE, "s", "s", tests=("z",)))
        for deed in [grown, least]:
            self.assert_error(NoCondition, {"name": "z"}, deed, large, wrong, {})
            self.assert_error(NoField, {"name": "z"}, deed, large, Program(State("s", Signals(z=1), "s")), {})
            self.assert_error(NoEntries, {}, deed, large, PROGRAM, {})
            self.assert_error(InvalidAddress, {"address": 128}, deed, large, PROGRAM, {128: "z", 0: "s"})
            for value in any_values() + ["z", PROGRAM]:
                self.assert_error(NoState, {"name": value}, deed, large, PROGRAM, {128: "s", 0: value})
            # Ahead of a bar: no kind serves s.
            self.assert_error(TooLarge, {"limit": 64}, deed, large, PROGRAM, {0: "s"})
            many = Store(Frame(6, FRAME.rows, ("x",), *[Kind("k" + str(at)) for at in range(5)]))
            self.assert_error(TooLarge, {"limit": 1024}, deed, many, PROGRAM, {0: "s"})


class LeastTest(unittest.TestCase, Checks):
    def assert_outcome(self, store, program, entries, outcome, naive):
        """The outcome is that of the trees of the document, and what it tells fits together."""
        groups = Classes(program, store.frame.rows, *[entries[at] for at in sorted(entries)])
        partings = tuple(groups.partings())
        self.assertEqual([outcome.program, outcome.starts, outcome.given], [program, entries, store])
        bound, trees = 0, [naive.grow(0)]
        while trees[-1][1] is None and trees[-1][2]:
            bound += 1
            trees.append(naive.grow(bound))
        if outcome:
            self.assertEqual([len(outcome), outcome.result], [bound, trees[-1][1]])
            self.assertEqual(outcome.floor, (bound - 1, groups.groups, partings, trees[-2][0]) if bound else None)
            self.assertEqual(outcome.written, store.differs(outcome.result))
            self.assertEqual(outcome.table, naive_walk(outcome.result, program, entries))
            self.assertEqual([outcome.result.frame, outcome.result.locked], [store.frame, store.locked])
            self.assertFalse(set(outcome.written) & set(store.locked))
            self.assertTrue(carries(outcome.result, program, entries))
            self.assertEqual(list(outcome.lines()), [str(at).rjust(3) + " " + str(outcome.result[at])
                                                     for at in outcome.written])
            self.assertEqual(len(least(outcome.result, program, entries)), 0)
        elif outcome.bar is None:
            self.assertEqual(outcome.floor, (None, groups.groups, partings, trees[-1][0]))
            self.assertIsNone(trees[-1][1])
            self.assertEqual(list(outcome.lines()), [f"tree {knots_of(trees[-1][0])}"])
        else:
            self.assertIsNone(outcome.floor)
            self.assertEqual(list(outcome.lines()), [f"bar {outcome.bar[0]} {outcome.bar[2]}"])
            self.assertIsNone(trees[-1][1])
        return sum(told[3] for told in trees)

    def test_by_the_words_of_the_document(self):
        counts = {}
        for seed in range(200):
            rng = maker(seed)
            store, program, entries = some_search(rng, (1, 2, 2, 3))
            before = store.twin(), dict(entries)
            outcome = least(store, program, entries, limit=4000)
            asked = self.assert_outcome(store, program, entries, outcome, NaiveSearch(store, program, entries))
            if asked and getattr(outcome, "bar", None) is None:
                self.assertEqual(len(least(store, program, entries, limit=asked)), len(outcome))
                if asked > 1:
                    self.assert_error(TooLarge, {"limit": asked - 1}, least, store, program, entries, limit=asked - 1)
            self.assertEqual((store, entries), before)
            sort = len(outcome) if outcome else "tree" if outcome.bar is None else "bar"
            counts[sort] = counts.get(sort, 0) + 1
        self.assertTrue(all(counts[sort] > 2 for sort in (0, 1, 2, 3, 4, "tree", "bar")), counts)

    def test_against_all_made_stores(self):
        counts = {}
        for seed in range(340):
            rng = maker(seed)
            store, program, entries = some_search(rng, (1, 1, 2, 2), 3)
            naive = NaiveSearch(store, program, entries)
            if len(naive.signals) * len(store.frame.kinds) > 6:
                continue
            outcome = least(store, program, entries)
            many, made = naive.made_stores()
            self.assertEqual(len(outcome) if outcome else None, many)
            counts[many] = counts.get(many, 0) + 1
            if outcome:
                self.assertTrue(naive_carries(outcome.result, program, entries, naive.class_of))
        self.assertTrue(all(counts[many] > 3 for many in (None, 0, 1, 2, 3)), counts)

    def test_alike_programs_and_states_that_are_not_reached(self):
        for seed in range(60):
            rng = maker(seed)
            store, program, entries = some_search(rng, (2,))
            classes = Classes(program, store.frame.rows, *[entries[at] for at in sorted(entries)])
            # One state for each class, and one that is not reached.
            states = []
            for group in classes.groups:
                old = program[group[0]]
                targets = [classes.groups[classes.number(target)][0] if target in classes else group[0]
                           for target in old.targets]
                states.append(State.of(old.name, old.signals, targets, old.tests, old.tag))
            other = Program.listed(states + [State("alone", Signals(x=9), "alone", tag="u")])
            starts = {at: classes.groups[classes.number(entries[at])][0] for at in entries}
            one, two = least(store, program, entries), least(store, other, starts)
            self.assertEqual([one.__class__, len(one)], [two.__class__, len(two)])
            if one:
                self.assertEqual(one.result, two.result)
                self.assertEqual(one.floor and one.floor[3], two.floor and two.floor[3])

    def test_nothing_to_write(self):
        store = Store(SMALL, {0: Word("t", 0, Signals(x=1)), 1: Word("n", 1, Signals(x=2))}, locked=(0, 1))
        program = Program(State("p", Signals(x=1), "p", "q", tests=("a",)), State("q", Signals(x=2), "q"))
        made = least(store, program, {0: "p"})
        self.assertEqual([bool(made), len(made), made.written, made.floor, list(made.lines()), made.result],
                         [True, 0, (), None, [], store])
        self.assertEqual(made.table, ((0, "p"), (1, "q")))

    def test_locked_addresses_that_wait(self):
        program = Program(State("p", NONE, "p", "q", tests=("a",)), State("q", Signals(x=2), "q"))
        frame = SMALL.wider()
        words = {1: Word("n", 1, Signals(x=2)), 2: Word("t", 0, NONE)}
        self.assertEqual(least(Store(frame, words, locked=(1, 2)), program, {2: "p"}).written, (0,))
        self.assertEqual(least(Store(frame, words, locked=(0, 1, 2)), program, {2: "p"}).floor[3], (2,))
        self.assertEqual(least(Store(frame, words, locked=(0, 1)), program, {2: "p"}).written, (2, 3))
        self.assertEqual(least(Store(frame, {1: Word("n", 3, Signals(x=2))}, locked=(1,)), program, {1: "q"}).written, (3,))
        barred = least(Store(frame, words, locked=(0,)), program, {0: "q"})
        self.assertEqual([barred.floor, list(barred.lines())], [(None, (("q",),), (), ()), ["tree 0"]])

    def test_sizes(self):
        rows = Rows.full(("a",))
        frame = Frame(6, rows, ("x",), Kind("n"), Test("t", "a", 0))
        program = Program.listed([State("s" + str(at), Signals(x=at), "s" + str((at + 1) % 24)) for at in range(24)])
        made = least(Store(frame), program, {63: "s0"}, limit=4000)
        self.assertEqual([len(made), made.table[-1]], [24, (63, "s0")])
        self.assertTrue(carries(made.result, program, {63: "s0"}))
        deep = Store(Frame(6, Rows(("a",), ()), ("x",), *[Kind("k" + str(at)) for at in range(8)]))
        self.assertEqual(len(least(deep, program, {at: "s" + str(at % 24) for at in range(64)})), 64)


class OutcomeTest(unittest.TestCase):
    def test_family(self):
        made, barred = least(Store(FRAME), PROGRAM, {0: "s"}), least(Store(SMALL), RING, {0: "p"})
        self.assertEqual([made.__class__, barred.__class__], [Made, Barred])
        self.assertEqual([Made.__bases__, Barred.__bases__], [(Outcome,), (Outcome,)])
        self.assertIs(bool(made), True)
        self.assertIs(bool(barred), False)
        self.assertEqual([len(made), len(barred)], [3, 0])
        self.assertEqual([made.program, barred.program], [PROGRAM, RING])
        for outcome in (made, barred):
            lines = outcome.lines()
            self.assertIs(iter(lines), lines)
            self.assertEqual(set(vars(outcome)) & {"starts", "given", "result"}, set())

    def test_what_is_returned_belongs_to_the_caller(self):
        store, entries = Store(FRAME, {2: Word("n", 2, NONE)}), {0: "s"}
        made = least(store, PROGRAM, entries)
        result = made.result
        store.erase(2)
        entries[3] = "t"
        made.starts[1] = "s"
        made.given.erase(2)
        made.result.erase(0)
        self.assertEqual([made.starts, made.given, made.result], [{0: "s"}, Store(FRAME, {2: Word("n", 2, NONE)}), result])
        self.assertIsNot(made.result, made.result)
        self.assertIsNot(made.starts, made.starts)
        self.assertIsNot(made.given, made.given)
        self.assertEqual([made.written, list(made.lines())[0]], [(0, 1, 3), "  0 ab 1 x=1"])

    def test_lines_of_wide_addresses(self):
        frame = Frame(4, Rows(("a",), ()), ("x",), Kind("n"))
        made = least(Store(frame), Program(State("s", NONE, "s")), {11: "s"})
        self.assertEqual(list(made.lines()), [" 11 n 11"])


class BarTest(unittest.TestCase):
    def test_by_the_words_of_the_document(self):
        bars = 0
        for seed in range(300):
            rng = maker(seed)
            store, program, entries = some_search(rng, (1, 2), 5, 1)
            rows, kinds = store.frame.rows.possible, store.frame.kinds
            states = [entries[at] for at in sorted(entries)]
            classes = Classes(program, store.frame.rows, *states)
            wanted = None
            for state, start, sequence in program.reached(store.frame.rows, *states):
                pairs = []
                for kind in kinds:
                    told = [(r, s, classes.parting(program(state, r), program(state, s)))
                            for i, r in enumerate(rows) for s in rows[i + 1:] if kind(r) == kind(s)]
                    pairs += [part for part in told if part[2] is not None][:1]
                if len(pairs) == len(kinds):
                    entry = min(at for at in entries if entries[at] == start)
                    wanted = (entry, sequence, state, tuple(pairs))
                    break
            outcome = least(store, program, entries, limit=4000)
            self.assertEqual(getattr(outcome, "bar", None), wanted)
            bars += wanted is not None
        self.assertGreater(bars, 20)

    def test_ahead_of_the_limit(self):
        program = Program(State("p", NONE, "q"), State("q", Signals(x=1), "q", "p", tests=("a",)))
        frame = Frame(2, Rows.full(("a",)), ("x",), Kind("n"), Masks("m", {"a": 0}))
        barred = least(Store(frame), program, {3: "p", 2: "p"}, limit=1)
        self.assertEqual(barred.bar, (2, ((),), "q", (((), ("a",), ()), ((), ("a",), ()))))
        self.assertEqual([list(barred.lines()), len(barred), barred.floor], [["bar 2 q"], 0, None])
        self.assertEqual(least(Store(frame), program, {0: "p", 1: "q"}).bar[:3], (1, (), "q"))

    def test_partings_with_tags(self):
        program = Program(State("p", NONE, "q", "r", tests=("a",)), State("q", NONE, "q"), State("r", NONE, "t"),
                          State("t", NONE, "t", tag="t"))
        frame = Frame(2, Rows.full(("a",)), ("x",), Kind("n"))
        self.assertEqual(least(Store(frame), program, {0: "p"}).bar, (0, (), "p", (((), ("a",), ((),)),)))
        self.assertTrue(least(Store(frame), program, {0: "r"}))


class CarriedTest(unittest.TestCase):
    def test_the_made_store_is_alike(self):
        made = 0
        for seed in range(80):
            rng = maker(seed)
            store, program, entries = some_search(rng, (3,), 4)
            outcome = least(store, program, entries, limit=4000)
            if outcome:
                made += 1
                for at in entries:
                    self.assertIsNone(parting(outcome.result, at, program, entries[at], store.frame.rows))
                again = store | {at: outcome.result[at] for at in outcome.written}
                self.assertEqual(again, outcome.result)
                knot = Knot.first(store, program, entries, len(outcome))
                self.assertIsNone(knot.closed)
        self.assertGreater(made, 40)
