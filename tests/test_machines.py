import itertools
import unittest

from orplaces.errors import InvalidAddress, NoState
from orplaces.frames import Frame
from orplaces.kinds import Kind, Masks, Test
from orplaces.machines import Machine
from orplaces.programs import Program, State
from orplaces.rows import Rows
from orplaces.signals import Signals
from orplaces.stores import Store, Word
from support import Checks, any_values

ROWS = Rows(("a", "b"), (), ("a",), ("b",), ("a", "b"))
FRAME = Frame(3, ROWS, ("out",), Kind("n"), Test("t", "a", 0), Masks("ab", {"a": 1, "b": 2}))


def by_all_sequences(machine, rows, *stands):
    """What reached yields, by its words: all sequences, by length, then by starts, then by the sequence."""
    told = {}
    length, found = 0, True
    while found:
        found = False
        for start in stands:
            for sequence in itertools.product(rows.possible, repeat=length):
                stand = start
                for row in sequence:
                    stand = None if stand is None else machine.stepped(stand, row)
                if stand is not None and stand not in told:
                    told[stand] = (stand, start, sequence)
                    found = True
        length += 1
    return list(told.values())


class MachineTest(unittest.TestCase, Checks):
    def test_examples_of_the_document(self):
        rows = Rows(("go",), (), ("go",))
        a = State("a", Signals(out=1), "a", "b", tests=("go",))
        b = State("b", Signals(out=2), "b")
        wait = Program(a, b)
        self.assertEqual(list(wait.reached(rows, "a")), [("a", "a", ()), ("b", "a", (("go",),))])
        self.assertEqual([wait.stepped("a", ("go",)), wait.shown("b")["out"]], ["b", 2])

    def test_stores_and_programs_are_machines(self):
        self.assertTrue(issubclass(Store, Machine) and issubclass(Program, Machine))
        self.assertEqual(Machine.__bases__, (object,))

    def test_order(self):
        store = Store(FRAME, {0: Word.of("ab", 4), 4: Word.of("n", 1), 5: Word.of("t", 2), 6: Word.of("n", 1),
                              2: Word.of("n", 0), 3: Word.of("n", 3)})
        a, b, ab = ("a",), ("b",), ("a", "b")
        self.assertEqual(list(store.reached(ROWS, 0)), [
            (0, 0, ()), (4, 0, ((),)), (5, 0, (a,)), (6, 0, (b,)), (7, 0, (ab,)), (1, 0, ((), ())), (2, 0, (a, ())),
            (3, 0, (a, a))])
        self.assertEqual(list(store.reached(ROWS, 6, 5)), [
            (6, 6, ()), (5, 5, ()), (1, 6, ((),)), (2, 5, ((),)), (3, 5, (a,)), (0, 5, ((), ())),
            (4, 5, ((), (), ())), (7, 5, ((), (), ab))])

    def test_order_by_all_sequences(self):
        kinds = ["n", "t", "ab"]
        for seed in range(60):
            words = {at: Word.of(kinds[(seed + 2 * at) % 3], (5 * seed + 3 * at * at + seed * at) % 8)
                     for at in range(8) if (seed + at) % 7}
            store = Store(FRAME, words)
            for stands in [(0,), (5, 0, 5), (7, 3, 1), (2, 2), ()]:
                for rows in [ROWS, Rows(("a", "b"), ("b",), ("a",)), Rows(("a", "b"), ())]:
                    self.assertEqual(list(store.reached(rows, *stands)), by_all_sequences(store, rows, *stands))

    def test_blank_addresses_are_told_and_not_left(self):
        store = Store(FRAME, {0: Word.of("t", 6)})
        self.assertEqual(list(store.reached(ROWS, 1, 0)), [(1, 1, ()), (0, 0, ()), (6, 0, ((),)), (7, 0, (("a",),))])

    def test_no_stand(self):
        self.assertEqual(list(Store(FRAME).reached(ROWS)), [])
        self.assertEqual(list(Program(State("s", Signals(), "s")).reached(ROWS)), [])

    def test_a_stand_twice(self):
        store = Store(FRAME, {0: Word.of("n", 1)})
        self.assertEqual(list(store.reached(ROWS, 2, 0, 2)), [(2, 2, ()), (0, 0, ()), (1, 0, ((),))])

    def test_program(self):
        s = State("s", Signals(), "s", "t", "u", "v", tests=("a", "b"))
        program = Program(s, State("t", Signals(), "u"), State("u", Signals(), "u"), State("v", Signals(), "w"),
                          State("w", Signals(), "w"), State("x", Signals(), "x"))
        for stands in [("s",), ("w", "s"), ("v", "t"), ("x",)]:
            self.assertEqual(list(program.reached(ROWS, *stands)), by_all_sequences(program, ROWS, *stands))
        self.assertEqual([program.stepped("s", ("b", "q", "a")), program.stepped("s", ("q",))], ["v", "s"])

    def test_stands_that_are_none(self):
        store = Store(FRAME, {0: Word.of("n", 1)})
        program = Program(State("s", Signals(), "s"))
        for value in any_values() + [8, "q", ("s",), [0], FRAME]:
            for machine, good, error, part in [(store, 0, InvalidAddress, "address"), (program, "s", NoState, "name")]:
                self.assert_error(error, {part: value}, machine.shown, value)
                self.assert_error(error, {part: value}, machine.stepped, value, ())
                self.assert_error(error, {part: value}, lambda: next(machine.reached(ROWS, good, value, None)))
