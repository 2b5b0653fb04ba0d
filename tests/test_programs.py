import unittest

from orplaces.errors import Blank, InvalidAddress, InvalidName, NoEntries, NoState, NoStates, NoTarget
from orplaces.errors import StateClash, Taken, TooMany, WrongCount
from orplaces.frames import Frame
from orplaces.kinds import Kind, Masks, Test
from orplaces.programs import Program, State
from orplaces.rows import Rows
from orplaces.signals import Signals
from orplaces.stores import Store, Word
from support import Checks, any_values

A = State("a", Signals(out=1), "a", "b", tests=("go",))
B = State("b", Signals(out=2), "b")
WAIT = Program(A, B)
FIVE = ("a", "b", "c", "d", "e")


class StateTest(unittest.TestCase, Checks):
    def test_examples_of_the_document(self):
        self.assertEqual([A.leads(("late",)), WAIT("a", ("go",))], ["a", "b"])
        both = State("both", Signals(), "n", "q", "p", "pq", tests=("p", "q"))
        self.assertEqual([both.leads(("p",)), both.leads(("q",))], ["p", "q"])
        loose = WAIT.apart("a", 0, "x")
        self.assertEqual([loose.names, loose["a"].targets, loose["x"].targets, loose["x"].tag],
                         [("a", "b", "x"), ("x", "b"), ("x", "b"), "x"])
        rows = Rows(("go",), (), ("go",))
        frame = Frame(2, rows, ("out",), Kind("n"), Test("t", "go", 0))
        store = Store(frame, {0: Word("t", 0, Signals(out=1)), 1: Word("n", 1, Signals(out=2))})
        found = Program.of(store, 0)
        self.assertEqual([found.names, found["at0"].tests, found["at0"].targets, found["at1"].targets],
                         [("at0", "at1"), ("go",), ("at0", "at1"), ("at1",)])

    def test_attributes(self):
        signals, targets, tests = Signals(x=1), ["s", "t"], ["p"]
        for state in [State("s", signals, *targets, tests=tests, tag="u"), State.of("s", signals, targets, tests, "u")]:
            self.assertEqual([state.name, state.targets, state.tests, state.tag], ["s", ("s", "t"), ("p",), "u"])
            self.assertIs(state.signals, signals)
        state = State.of("s", signals, ("s",))
        self.assertEqual([state.targets, state.tests, state.tag], [("s",), (), None])

    def test_leads(self):
        targets = ["t" + str(index) for index in range(32)]
        state = State.of("s", Signals(), targets, FIVE)
        self.assertEqual([state.leads(()), state.leads(("e",)), state.leads(("a",)), state.leads(("q", "d", "b"))],
                         ["t0", "t1", "t16", "t10"])
        self.assertEqual(state.leads(("e", "d", "c", "b", "a")), "t31")

    def test_refused_names(self):
        for value in any_values() + ["A", ("s",), 1]:
            wrong = {"value": value}
            self.assert_error(InvalidName, wrong, State, value, Signals(), None)
            self.assert_error(InvalidName, wrong, lambda: State("s", Signals(), "t", value, None, tests=("A",), tag=1))
            self.assert_error(InvalidName, wrong, State.of, "s", Signals(), [], ["p", value, None], 1)
            if value is not None:
                self.assert_error(InvalidName, wrong, State.of, "s", Signals(), [], ["p"] * 6, value)

    def test_refused_tests_and_targets(self):
        self.assert_error(TooMany, {"part": "tests"}, State.of, "s", Signals(), [], ("a",) * 6)
        self.assert_error(Taken, {"name": "b"}, State.of, "s", Signals(), [], ("a", "b", "c", "b", "a"))
        for many in range(6):
            for targets in [0, 2 ** many - 1, 2 ** many + 1, 64]:
                if targets != 2 ** many:
                    self.assert_error(WrongCount, {"wanted": 2 ** many}, State.of, "s", Signals(), ["s"] * targets,
                                      FIVE[:many])
            self.assertEqual(len(State.of("s", Signals(), ["s"] * 2 ** many, FIVE[:many]).targets), 2 ** many)

    def test_equal(self):
        state = State.of("s", Signals(x=1), ["s", "t"], ["p"], "u")
        self.assertIs(state == State("s", Signals(x=1, y=0), "s", "t", tests=("p",), tag="u"), True)
        others = [State.of("t", Signals(x=1), ["s", "t"], ["p"], "u"), State.of("s", Signals(), ["s", "t"], ["p"], "u"),
                  State.of("s", Signals(x=1), ["t", "t"], ["p"], "u"), State.of("s", Signals(x=1), ["s", "t"], ["p"]),
                  State.of("s", Signals(x=1), ["s", "t"], ["q"], "u")]
        for other in others + any_values():
            self.assertIs(state == other, False)
            self.assertIs(other == state, False)


class ProgramTest(unittest.TestCase, Checks):
    def test_reading(self):
        self.assertEqual([WAIT.names, len(WAIT), "a" in WAIT, "c" in WAIT], [("a", "b"), 2, True, False])
        self.assertIs(WAIT["a"], A)
        self.assertEqual([WAIT, Program.MOST], [Program.listed([A, B]), 24])
        for value in any_values() + ["c", ("a",), A]:
            self.assertIs(value in WAIT, False)
            self.assert_error(NoState, {"name": value}, lambda: WAIT[value])
            self.assert_error(NoState, {"name": value}, WAIT, value, ())

    def test_refused(self):
        states = [State("s" + str(index), Signals(), "s0") for index in range(25)]
        self.assertEqual(len(Program(*states[:24])), 24)
        self.assert_error(NoStates, {}, Program)
        self.assert_error(NoStates, {}, Program.listed, [])
        self.assert_error(TooMany, {"part": "states"}, Program.listed, states)
        self.assert_error(TooMany, {"part": "states"}, Program.listed, [A] * 25)
        self.assert_error(Taken, {"name": "b"}, Program, State("a", Signals(), "z"), B, B, A)
        self.assert_error(NoState, {"name": "y"}, Program, State("a", Signals(), "b", "y", tests=("p",)),
                          State("b", Signals(), "x"))

    def test_equal(self):
        self.assertIs(WAIT == Program(State("a", Signals(out=1), "a", "b", tests=("go",)), B), True)
        for other in [Program(B, A), Program(B), WAIT | Program(State("c", Signals(), "c"))] + any_values():
            self.assertIs(WAIT == other, False)
            self.assertIs(other == WAIT, False)

    def test_united(self):
        c = State("c", Signals(), "b")
        self.assertEqual((WAIT | Program(c, B)).names, ("a", "b", "c"))
        self.assertEqual((Program(c, B) | WAIT).names, ("c", "b", "a"))
        unlike = Program(c, State("b", Signals(), "b"), State("a", Signals(), "a"))
        self.assert_error(StateClash, {"name": "b"}, lambda: WAIT | unlike)
        many = Program.listed([State("s" + str(index), Signals(), "s0") for index in range(23)])
        self.assert_error(TooMany, {"part": "states"}, lambda: WAIT | many)
        self.assertEqual(len(Program(B) | many), 24)

    def test_apart(self):
        program = Program(A, State("b", Signals(out=2), "a", "b", tests=("p",), tag="mark"))
        loose = program.apart("a", 1, "c")
        self.assertEqual([loose.names, loose["a"].targets, loose["b"]], [("a", "b", "c"), ("a", "c"), program["b"]])
        self.assertEqual(loose["c"], State("c", Signals(out=2), "a", "b", tests=("p",), tag="c"))
        self.assertEqual(program.apart("b", 0, "c")["c"], State("c", Signals(out=1), "a", "b", tests=("go",), tag="c"))
        self.assertEqual(program.apart("b", 1, "c")["c"].targets, ("a", "c"))
        self.assertEqual(program.apart("b", 1, "c")["b"].tag, "mark")
        for value in any_values() + ["z", 2]:
            self.assert_error(NoState, {"name": value}, program.apart, value, None, None)
            self.assert_error(NoTarget, {"value": value}, program.apart, "a", value, None)
        for value in any_values() + ["Z", 2]:
            self.assert_error(InvalidName, {"value": value}, program.apart, "a", 1, value)
        for name in ["a", "b", "mark"]:
            self.assert_error(Taken, {"name": name}, program.apart, "a", 0, name)
        full = Program.listed([State("s" + str(index), Signals(), "s0") for index in range(24)])
        self.assert_error(TooMany, {"part": "states"}, full.apart, "s0", 0, "x")


class ProgramOfStoreTest(unittest.TestCase, Checks):
    def test_of(self):
        rows = Rows(("a", "b"), (), ("a",), ("b",))
        frame = Frame(3, rows, ("x",), Kind("n"), Masks("ab", {"a": 1, "b": 2}), Test("t", "a", 0))
        store = Store(frame, {0: Word.of("ab", 4, x=1), 4: Word.of("t", 6), 5: Word.of("n", 5), 6: Word.of("n", 5)})
        self.assert_error(Blank, {"address": 7}, Program.of, store, 5, 0)
        store[7] = Word.of("n", 7, x=7)
        found = Program.of(store, 5, 0)
        self.assertEqual(found.names, ("at5", "at0", "at4", "at6", "at7"))
        self.assertEqual(found["at0"], State("at0", Signals(x=1), "at4", "at6", "at5", "at0", tests=("a", "b")))
        self.assertEqual(found["at4"], State("at4", Signals(), "at6", "at7", tests=("a",)))
        self.assert_error(NoEntries, {}, Program.of, store)
        for value in any_values() + [8]:
            self.assert_error(InvalidAddress, {"address": value}, Program.of, store, 1, value)

    def test_too_many(self):
        frame = Frame(6, Rows(("a",), ()), ("x",), Kind("n"))
        store = Store(frame, {address: Word.of("n", address + 1) for address in range(25)})
        self.assert_error(Blank, {"address": 25}, Program.of, store, 0)
        store[25] = Word.of("n", 25)
        self.assert_error(TooMany, {"part": "states"}, Program.of, store, 1)
        self.assertEqual(len(Program.of(store, 2)), 24)
