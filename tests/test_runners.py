import unittest

from makers import maker, some_frame, some_store
from orplaces.errors import Blank, InvalidAddress, NotPossible
from orplaces.frames import Frame
from orplaces.kinds import Kind, Test
from orplaces.programs import Program
from orplaces.rows import Rows
from orplaces.runners import Runner, assign_place, assign_raised
from orplaces.signals import Signals
from orplaces.stores import Store, Word
from support import Checks, any_values

FRAME = Frame(2, Rows.full(("a",)), ("led",), Kind("go"), Test("on", "a", 0))
WORDS = {0: Word("on", 2, Signals(led=1)), 2: Word("go", 0, Signals()), 3: Word("go", 3, Signals(led=3))}
FEW = FRAME.with_rows(Rows(("a",), ("a",)))


def told(runner):
    return runner.place, runner.raised, runner.steps


class NoRow(Exception):
    pass


class RunnerTest(unittest.TestCase, Checks):
    def setUp(self):
        self.store = Store(FRAME, WORDS)
        self.runner = Runner(self.store)

    def test_example_of_the_document(self):
        runner, store = self.runner, self.store
        self.assertEqual([runner.run([(), ()]), runner(("a",)), str(runner.shown()), runner.raised, runner.steps],
                         [[2, 0], 3, "led=3", ("a",), 3])
        store.erase(3)
        self.assertEqual([runner.place, runner.raised], [3, ("a",)])
        self.assert_error(Blank, {"address": 3}, runner.shown)

    def test_at_first(self):
        self.assertIs(self.runner.store, self.store)
        self.assertEqual(told(self.runner), (0, (), 0))
        self.assertEqual(told(Runner(self.store, 3)), (3, (), 0))
        self.assertEqual(told(Runner(self.store, 1)), (1, (), 0))
        self.assertEqual(told(Runner(Store(FEW), 1)), (1, ("a",), 0))
        for value in any_values() + [4, "0", (0,), self.store, self.runner]:
            self.assert_error(InvalidAddress, {"address": value}, Runner, self.store, value)

    def test_place(self):
        self.runner.place = 3
        self.assertEqual(told(self.runner), (3, (), 0))
        self.assertIsNone(assign_place(self.runner, 1))
        self.assertEqual(told(self.runner), (1, (), 0))
        for value in any_values() + [4, "0", (0,), self.store, self.runner]:
            self.assert_error(InvalidAddress, {"address": value}, assign_place, self.runner, value)
            with self.assertRaises(InvalidAddress):
                self.runner.place = value
            self.assertEqual(told(self.runner), (1, (), 0))

    def test_raised(self):
        self.runner.raised = ("a",)
        self.assertEqual(told(self.runner), (0, ("a",), 0))
        self.assertIsNone(assign_raised(self.runner, ()))
        self.assertEqual(told(self.runner), (0, (), 0))
        self.assertIsNone(assign_raised(self.runner, ("a",)))
        self.assertEqual([self.runner.step(), self.runner.step()], [3, 3])
        for value in any_values() + ["a", ("b",), ["a"], ("a", "a"), self.store, FRAME.rows, 0]:
            self.assert_error(NotPossible, {"row": value}, assign_raised, self.runner, value)
            with self.assertRaises(NotPossible):
                self.runner.raised = value
        self.assertEqual(told(self.runner), (3, ("a",), 2))
        few = Runner(Store(FEW))
        self.assert_error(NotPossible, {"row": ()}, assign_raised, few, ())

    def test_steps_are_counted_only(self):
        with self.assertRaises(AttributeError):
            self.runner.steps = 3
        self.assertEqual(self.runner.steps, 0)

    def test_step(self):
        self.assertEqual([self.runner.step(), told(self.runner)], [2, (2, (), 1)])
        self.runner.raised = ("a",)
        self.assertEqual([self.runner.step(), self.runner.step(), told(self.runner)], [0, 3, (3, ("a",), 3)])
        self.runner.place = 1
        self.assert_error(Blank, {"address": 1}, self.runner.step)
        self.assertEqual(told(self.runner), (1, ("a",), 3))

    def test_call(self):
        self.assertEqual([self.runner(("a",)), told(self.runner)], [3, (3, ("a",), 1)])
        self.runner.place = 1
        for value in any_values() + ["a", ("b",), ["a"], self.store]:
            self.assert_error(NotPossible, {"row": value}, self.runner, value)
        self.assert_error(Blank, {"address": 1}, self.runner, ())
        self.assertEqual(told(self.runner), (1, ("a",), 1))

    def test_run(self):
        self.assertEqual([self.runner.run([]), self.runner.run(()), told(self.runner)], [[], [], (0, (), 0)])
        self.assertEqual([self.runner.run(((), (), ("a",), ())), told(self.runner)], [[2, 0, 3, 3], (3, (), 4)])
        rows = [(), ("a",)]
        self.runner.run(rows)
        self.assertEqual([rows, told(self.runner)], [[(), ("a",)], (3, ("a",), 6)])

    def test_run_that_raises(self):
        self.runner.run([(), ()])
        for value in any_values() + ["a", ("b",), ["a"], self.store]:
            self.assert_error(NotPossible, {"row": value}, self.runner.run, [("a",), ("a",), value, ()])
            self.assertEqual(told(self.runner), (0, (), 2))
        self.store.erase(3)
        self.assert_error(Blank, {"address": 3}, self.runner.run, [(), (), ("a",), ("a",)])
        self.assertEqual(told(self.runner), (0, (), 2))
        # The row is looked at ahead of the place.
        self.assert_error(NotPossible, {"row": None}, self.runner.run, (("a",), None))
        self.assertEqual(self.runner.run([("a",)]), [3])
        self.assert_error(Blank, {"address": 3}, self.runner.run, [()])
        self.assertEqual(told(self.runner), (3, ("a",), 3))

    def test_the_store_is_not_copied(self):
        self.store.write(2, Word("on", 0, Signals(led=9)))
        self.assertEqual([self.runner.step(), str(self.runner.shown()), self.runner(("a",))], [2, "led=9", 1])
        self.assert_error(Blank, {"address": 1}, self.runner.shown)
        self.store.write(1, Word("go", 1, Signals()))
        self.assertEqual([self.runner.step(), self.runner.shown()], [1, Signals()])
        two = Runner(self.store, 2)
        self.store.erase(2)
        self.assert_error(Blank, {"address": 2}, two.step)
        self.assert_error(Blank, {"address": 2}, two.shown)
        with self.store.trial() as same:
            same.write(2, WORDS[3])
            self.assertEqual([two.step(), two.shown()], [3, Signals(led=3)])
        self.assertEqual(told(two), (3, (), 1))

    def test_repr(self):
        self.assertEqual(repr(self.runner), "Runner(at 0, 0 steps)")
        self.runner.step()
        self.assertEqual(repr(self.runner), "Runner(at 2, 1 steps)")
        self.runner.run([(), ("a",)])
        self.assertEqual(repr(self.runner), "Runner(at 3, 3 steps)")

    def test_beside_paths(self):
        for seed in range(80):
            rng = maker(seed)
            store = some_store(rng, some_frame(rng, rng.choice([1, 2, 3])), full=0.9)
            rows = store.frame.rows.possible
            address = rng.randrange(store.frame.size)
            runner, sequence = Runner(store, address), [rng.choice(rows) for _ in range(rng.randrange(8))]
            places = list(store.path(address, sequence))
            made = len(places) - 1
            if made < len(sequence):
                self.assert_error(Blank, {"address": places[-1]}, runner.run, sequence)
                self.assertEqual(told(runner), (address, rows[0], 0))
            self.assertEqual(runner.run(sequence[:made]), places[1:])
            self.assertEqual(told(runner), (places[-1], sequence[made - 1] if made else rows[0], made))
            if places[-1] in store:
                self.assertEqual(runner.shown(), store[places[-1]].signals)
                self.assertEqual(runner(rows[-1]), store(places[-1], rows[-1]))

    def test_beside_programs(self):
        for seed in range(60):
            rng = maker(seed)
            store = some_store(rng, some_frame(rng, 3), full=1)
            program, runner = Program.of(store, 5), Runner(store, 5)
            state = "at5"
            for _ in range(10):
                row = rng.choice(store.frame.rows.possible)
                self.assertEqual(runner.shown(), program.shown(state))
                state = program(state, row)
                self.assertEqual("at" + str(runner(row)), state)


class TrialTest(unittest.TestCase, Checks):
    def setUp(self):
        self.store = Store(FRAME, WORDS)
        self.runner = Runner(self.store)
        self.runner(())

    def test_undone(self):
        with self.runner.trial() as same:
            self.assertIs(same, self.runner)
            self.assertEqual(same.run([(), ("a",)]), [0, 3])
            same.place = 1
            self.assertEqual(told(same), (1, ("a",), 3))
        self.assertEqual(told(self.runner), (2, (), 1))

    def test_the_store_stays_as_it_is(self):
        with self.runner.trial():
            self.store.write(1, WORDS[3])
            self.store.erase(2)
        self.assertEqual([1 in self.store, 2 in self.store], [True, False])
        self.assert_error(Blank, {"address": 2}, self.runner.shown)

    def test_left_by_an_error(self):
        with self.assertRaises(NoRow):
            with self.runner.trial() as same:
                same.run([(), ("a",)])
                raise NoRow
        self.assertEqual(told(self.runner), (2, (), 1))
        with self.assertRaises(Blank):
            with self.runner.trial() as same:
                same.place = 1
                same.raised = ("a",)
                same.step()
        self.assertEqual(told(self.runner), (2, (), 1))

    def test_when_the_suite_begins(self):
        trial = self.runner.trial()
        self.runner(())
        with trial as same:
            same(("a",))
        self.assertEqual(told(self.runner), (0, (), 2))

    def test_one_within_another(self):
        with self.runner.trial() as outer:
            outer(())
            with outer.trial() as inner:
                inner(("a",))
                self.assertEqual(told(inner), (3, ("a",), 3))
            self.assertEqual(told(outer), (0, (), 2))
            with self.assertRaises(NoRow):
                with outer.trial() as inner:
                    inner(("a",))
                    raise NoRow
            self.assertEqual(told(outer), (0, (), 2))
        self.assertEqual(told(self.runner), (2, (), 1))

    def test_of_two_runners_and_a_store(self):
        other = Runner(self.store, 3)
        with self.runner.trial() as one, other.trial() as two, self.store.trial() as store:
            store.erase(0)
            one(())
            two(("a",))
            self.assert_error(Blank, {"address": 0}, one.step)
        self.assertEqual([told(self.runner), told(other), 0 in self.store], [(2, (), 1), (3, (), 0), True])

    def test_left_early(self):
        def early(runner):
            for row in [(), ("a",)]:
                with runner.trial() as same:
                    return same(row)

        self.assertEqual(early(self.runner), 0)
        self.assertEqual(told(self.runner), (2, (), 1))

    def test_tried(self):
        self.assertEqual(self.runner.tried(lambda same: same.run([(), ("a",)])), [0, 3])
        self.assertEqual(told(self.runner), (2, (), 1))
        self.assertIs(self.runner.tried(lambda same: same), self.runner)
        self.assertIsNone(self.runner.tried(lambda same: assign_place(same, 1)))
        self.assertEqual(told(self.runner), (2, (), 1))
        with self.assertRaises(NoRow):
            self.runner.tried(self.failing)
        self.assertEqual(told(self.runner), (2, (), 1))

    def failing(self, runner):
        runner(())
        raise NoRow
