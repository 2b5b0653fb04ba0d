import unittest

from makers import maker, some_program, some_rows
from naive import looked, naive_groups, naive_met, naive_state_parting, run
from orplaces.classes import Classes
from orplaces.errors import NoClass, NoCondition, NoState, NotPossible
from orplaces.programs import Program, State
from orplaces.rows import Rows
from orplaces.signals import Signals
from support import Checks, any_values

# The program that the document reads from a text.
PROGRAM = Program(State("a", Signals(x=1), "b", "c", tests=("p",)), State("b", Signals(), "b"),
                  State("c", Signals(), "c", "a", tests=("q",)))
FULL = Rows.full(("p", "q"))
FEW = Rows(("p", "q"), (), ("p",))
FIVE = ("a", "b", "c", "d", "e")
NONE = Signals()


def renamed(program, names, conditions, fields, order):
    """The program with other names of states, conditions and fields, its states in another order."""
    states = []
    for name in order:
        old = program[name]
        signals = Signals.of([(fields[field], number) for field, number in old.signals.told])
        states.append(State.of(names[name], signals, [names[target] for target in old.targets],
                               [conditions[test] for test in old.tests], old.tag))
    return Program.listed(states)


def chain(many, last_tag=None, conditions=()):
    """States that lead one to the next, of which the last one only shows or has something."""
    states = []
    for at in range(many):
        signals = Signals(x=1) if at == many - 1 and last_tag is None else NONE
        follow = "s" + str(min(at + 1, many - 1))
        targets = ["s" + str(at)] * (2 ** len(conditions) - 1) + [follow]
        states.append(State.of("s" + str(at), signals, targets, conditions, last_tag if at == many - 1 else None))
    return Program.listed(states)


class ClassesTest(unittest.TestCase, Checks):
    def test_examples_of_the_document(self):
        classes, few = Classes(PROGRAM, FULL, "a"), Classes(PROGRAM, FEW, "a")
        self.assertEqual([classes.groups, classes.parting("b", "c"), classes.way("c"), classes.led(2, ("q",))],
                         [(("a",), ("b",), ("c",)), (("q",),), ("a", (("p",),)), 0])
        self.assertEqual([few.groups, list(few.partings())], [(("a",), ("b", "c")), [(0, 1, ())]])
        groups = (("a",), ("c", "b"))
        self.assertEqual([Classes.is_partition(PROGRAM, one.rows, ("a",), groups, ((0, 1, ()),))
                          for one in (classes, few)], [False, True])
        self.assert_error(NoState, {"name": "d"}, few.number, "d")

    def test_reading(self):
        classes = Classes(PROGRAM, FULL, "c", "a", "c")
        self.assertIs(classes.program, PROGRAM)
        self.assertIs(classes.rows, FULL)
        self.assertEqual([classes.states, classes.groups, len(classes)],
                         [("c", "a", "b"), (("c",), ("a",), ("b",)), 3])
        self.assertEqual([classes.number(state) for state in "abc"], [1, 2, 0])
        self.assertEqual([classes.signals_of(number) for number in range(3)], [NONE, Signals(x=1), NONE])
        self.assertEqual([classes.led(0, row) for row in FULL.possible], [0, 0, 1, 1])
        self.assertEqual([classes.led(1, row) for row in FULL.possible], [2, 0, 2, 0])
        self.assertIs("a" in classes, True)
        self.assertIs("d" in classes, False)

    def test_states_that_are_not_reached(self):
        classes = Classes(PROGRAM, FULL, "b")
        self.assertEqual([classes.states, classes.groups, len(classes), list(classes.partings())],
                         [("b",), (("b",),), 1, []])
        self.assertIs("a" in classes, False)
        for deed in [classes.number, classes.way, lambda state: classes.parting("b", state)]:
            self.assert_error(NoState, {"name": "a"}, deed, "a")

    def test_refused(self):
        p, q = State("p", NONE, "q", "q", tests=("b",)), State("q", NONE, "q", "q", "q", "q", tests=("c", "a"))
        for rows, name in [(Rows.full(("a", "c")), "b"), (Rows.full(("b", "a")), "c"), (Rows.full(("c", "b")), "a"),
                           (Rows.full(("d",)), "b")]:
            self.assert_error(NoCondition, {"name": name}, Classes, Program(p, q), rows, "z")
            self.assert_error(NoCondition, {"name": name}, Classes.is_partition, Program(p, q), rows, ("q",), 0, 0)
        for value in any_values() + ["z", ("p",), 1, p, FULL]:
            self.assert_error(NoState, {"name": value}, Classes, PROGRAM, FULL, "a", value, "d")

    def test_any_value_as_a_state(self):
        classes = Classes(PROGRAM, FULL, "a")
        for value in any_values() + ["z", ("a",), 1, PROGRAM["a"], PROGRAM, classes]:
            self.assertIs(value in classes, False)
            self.assert_error(NoState, {"name": value}, classes.number, value)
            self.assert_error(NoState, {"name": value}, classes.way, value)
            self.assert_error(NoState, {"name": value}, classes.parting, value, None)
            self.assert_error(NoState, {"name": value}, classes.parting, "a", value)

    def test_any_value_as_a_number_or_a_row(self):
        classes = Classes(PROGRAM, FEW, "a")
        for value in any_values() + [2, "0", (0,), classes]:
            self.assert_error(NoClass, {"value": value}, classes.signals_of, value)
            self.assert_error(NoClass, {"value": value}, classes.tag_of, value)
            self.assert_error(NoClass, {"value": value}, classes.led, value, None)
        for value in any_values() + [("q",), ("q", "p"), ["p"], "p", FEW]:
            self.assert_error(NotPossible, {"row": value}, classes.led, 1, value)

    def test_tags(self):
        program = Program(State("p", NONE, "q"), State("q", NONE, "r", tag="one"), State("r", NONE, "s", tag="two"),
                          State("s", NONE, "t", tag="one"), State("t", NONE, "q", tag="two"))
        rows = Rows(("a",), ("a",))
        classes = Classes(program, rows, "p")
        self.assertEqual(classes.groups, (("p",), ("q", "s"), ("r", "t")))
        self.assertEqual([classes.tag_of(number) for number in range(3)], [None, "one", "two"])
        self.assertEqual([classes.parting("p", "q"), classes.parting("r", "q"), classes.parting("q", "s")],
                         [(), (), None])
        behind = Program(State("p", NONE, "q"), State("q", NONE, "r"), State("r", NONE, "r", tag="t"))
        self.assertEqual(Classes(behind, rows, "p").parting("p", "q"), (("a",),))

    def test_equal_tags_do_not_unite(self):
        program = Program(State("p", NONE, "q", tag="t"), State("q", Signals(x=1), "p", tag="t"))
        self.assertEqual(Classes(program, Rows(("a",), ()), "q").groups, (("q",), ("p",)))

    def test_by_trying_all_sequences(self):
        for seed in range(120):
            rng = maker(seed)
            program = some_program(rng, rng.randint(1, 6), numbers=2, tags=(None, None, None, "t", "u"))
            rows = some_rows(rng, ("a", "b"))
            states = rng.choices(program.names, k=rng.randint(1, 3))
            classes = Classes(program, rows, *states)
            self.assertEqual(classes.states, naive_met(program, rows, states))
            self.assertEqual(classes.groups, naive_groups(program, rows, states))
            self.assertEqual([(state, *classes.way(state)) for state in classes.states],
                             list(program.reached(rows, *states)))
            for one in classes.states:
                for other in classes.states:
                    self.assertEqual(classes.parting(one, other), naive_state_parting(program, rows, one, other, 4))

    def test_partings(self):
        for seed in range(40):
            rng = maker(seed)
            program = some_program(rng, 6, numbers=2, tags=(None, None, "t"))
            classes = Classes(program, some_rows(rng, ("a", "b")), *program.names[:2])
            many = len(classes)
            self.assertEqual(list(classes.partings()), [
                (i, j, classes.parting(classes.groups[i][0], classes.groups[j][0]))
                for i in range(many) for j in range(i + 1, many)])
            self.assertIs(Classes.is_partition(program, classes.rows, program.names[:2], classes.groups,
                                               tuple(classes.partings())), True)

    def test_first_of_the_shortest_partings(self):
        ring = Program(State("p", NONE, "q", "r", tests=("a",)), State("q", NONE, "p", "z", tests=("b",)),
                       State("r", NONE, "z", "p", tests=("b",)), State("z", Signals(x=1), "z"))
        classes = Classes(ring, Rows.full(("a", "b")), "p")
        self.assertEqual([classes.parting("p", "q"), classes.parting("p", "r"), classes.parting("q", "r")],
                         [(("b",),), ((),), ((),)])
        later = Classes(ring, Rows(("a", "b"), ("b",), ("a", "b")), "p")
        self.assertEqual([later.parting("p", "q"), later.parting("q", "r")], [(("b",),), (("b",),)])

    def test_one_state_and_24_of_5_conditions(self):
        alone = Classes(Program(State("s", NONE, "s")), Rows(("a",), ("a",)), "s", "s")
        self.assertEqual([alone.groups, list(alone.partings()), alone.way("s")], [(("s",),), [], ("s", ())])
        for tag in (None, "end"):
            classes = Classes(chain(24, tag, FIVE), Rows.full(FIVE), "s0")
            self.assertEqual([len(classes), classes.states[23], classes.way("s23")],
                             [24, "s23", ("s0", (FIVE,) * 23)])
            partings = list(classes.partings())
            self.assertEqual([len(partings), partings[0]], [276, (0, 1, (FIVE,) * 22)])
            self.assertEqual(partings[-1], (22, 23, ()))
            self.assertIs(Classes.is_partition(classes.program, classes.rows, ["s0"], classes.groups,
                                               tuple(partings)), True)

    def test_rows_that_are_not_possible_part_nothing(self):
        full = Classes(chain(5, None, ("a", "b")), Rows.full(("a", "b")), "s0", "s1", "s2", "s3", "s4")
        few = Classes(full.program, Rows(("a", "b"), (), ("a",), ("b",)), "s0", "s1", "s2", "s3", "s4")
        self.assertEqual([len(full), few.groups], [5, (("s0", "s1", "s2", "s3"), ("s4",))])
        self.assertEqual([full.parting("s0", "s1"), few.parting("s0", "s1")], [(("a", "b"),) * 3, None])


class OtherProgramsTest(unittest.TestCase):
    def test_other_names_and_orders(self):
        for seed in range(40):
            rng = maker(seed)
            program = some_program(rng, 7, numbers=2, tags=(None, None, "t"))
            rows = some_rows(rng, ("a", "b"))
            names = {name: "to" + name for name in program.names}
            moved = {"a": "q", "b": "p"}
            other = renamed(program, names, moved, {"x": "led"}, rng.sample(program.names, 7))
            other_rows = Rows.of(("q", "p"), [tuple([moved[name] for name in row]) for row in rows.possible])
            states = program.names[2:4]
            one, two = Classes(program, rows, *states), Classes(other, other_rows, *[names[s] for s in states])
            self.assertEqual(two.groups, tuple(tuple(names[s] for s in group) for group in one.groups))
            for (i, j, sequence), told in zip(one.partings(), two.partings()):
                self.assertEqual(told, (i, j, tuple(tuple(moved[name] for name in row) for row in sequence)))

    def test_given_states_in_another_order(self):
        for seed in range(30):
            rng = maker(seed)
            program = some_program(rng, 6, numbers=2, tags=(None, "t"))
            rows = some_rows(rng, ("a", "b"))
            found = [Classes(program, rows, *rng.sample(program.names, 6)) for _ in range(3)]
            together = [sorted([sorted(group) for group in classes.groups]) for classes in found]
            self.assertEqual([together[0]] * 3, together)

    def test_fewer_rows_unite_classes(self):
        for seed in range(40):
            rng = maker(seed)
            program = some_program(rng, 6, numbers=2)
            full = Classes(program, Rows.full(("a", "b")), *program.names)
            few = Classes(program, some_rows(rng, ("a", "b")), *program.names)
            for group in full.groups:
                self.assertEqual(len({few.number(state) for state in group}), 1)

    def test_apart(self):
        for seed in range(40):
            rng = maker(seed)
            program = some_program(rng, 5, numbers=1)
            name = rng.choice(program.names)
            index = rng.randrange(len(program[name].targets))
            other = program.apart(name, index, "copy")
            classes = Classes(other, Rows.full(("a", "b")), *program.names, "copy")
            self.assertEqual([group for group in classes.groups if "copy" in group], [("copy",)])
            before = Classes(program, Rows.full(("a", "b")), *program.names)
            self.assertEqual(len(before), 1)
            for state in set(program.names) - {name}:
                self.assertIsNotNone(classes.parting(name, state))

    def test_united(self):
        for seed in range(30):
            rng = maker(seed)
            one, two = some_program(rng, 4, numbers=2), some_program(rng, 5, numbers=2)
            names = {name: "t" + name for name in two.names}
            two = renamed(two, names, {"a": "a", "b": "b"}, {"x": "x"}, two.names)
            rows = some_rows(rng, ("a", "b"))
            alone, both = Classes(one, rows, *one.names), Classes(one | two, rows, *one.names, *two.names)
            self.assertEqual(alone.groups, tuple(tuple(s for s in group if s in one)
                                                 for group in both.groups[:len(alone)]))


class PartitionTest(unittest.TestCase):
    # The states p and q are alike, and so are r and s; u is not reached.
    program = Program(State("p", NONE, "r", "q", tests=("a",)), State("q", NONE, "s", "p", tests=("a",)),
                      State("r", Signals(x=1), "r", "p", tests=("b",)),
                      State("s", Signals(x=1), "r", "q", tests=("b",)), State("t", NONE, "t", tag="t"),
                      State("u", NONE, "u"))
    ROWS = Rows(("a", "b"), (), ("a",), ("b",))
    GROUPS = (("p", "q"), ("r", "s"), ("t",))

    def told(self, groups, partings, states=("p", "t")):
        return Classes.is_partition(self.program, self.ROWS, states, groups, partings)

    def test_right(self):
        parts = ((0, 1, ()), (0, 2, ()), (1, 2, ()))
        self.assertIs(self.told(self.GROUPS, parts), True)
        self.assertIs(self.told(self.GROUPS, parts, ["t", "q", "t"]), True)
        self.assertIs(self.told((("t",), ("s", "r"), ("q", "p")), parts), True)
        longer = ((0, 1, (("b",),)), (0, 2, (("a",), ("b",), ("a",))), (1, 2, ((),) * 50))
        self.assertIs(self.told(self.GROUPS, longer), True)
        self.assertIs(self.told((("u",),), (), ("u",)), True)

    def test_groups(self):
        parts = ((0, 1, ()), (0, 2, ()), (1, 2, ()))
        wrong = [
            (("p", "q"), ("r", "s"), ("t",), ()), (("p", "q"), ("r",), ("t",)), (("p", "q"), ("r", "s", "u"), ("t",)),
            (("p", "q"), ("r", "s", "p"), ("t",)), (("p", "q", "p"), ("r", "s"), ("t",)),
            (("p", "p"), ("r", "s"), ("t",)), (("p", "q"), ("r", "s"), ("t",), ("t",)),
            (("p", "r"), ("q", "s"), ("t",)), (("p", "q"), ("r", "s")), (("p", "q"), ("r", "s"), ("t", "z")),
            (["p", "q"], ("r", "s"), ("t",)), [("p", "q"), ("r", "s"), ("t",)], (("p", "q"), ("r", "s"), "t"),
            (("p", "q"), ("r", "s"), {"t": 1}), (("p", "q"), ("r", "s"), ("t", None)), (("p", "q"), ("r", "s", "t"), ()),
            (("p", "q"), ("r", "s"), (("t",),)), (("p", "q"), ("r", "s"), (["t"],)), (("p", "q", "r", "s", "t"),)]
        for groups in wrong + any_values():
            self.assertIs(self.told(groups, parts), False, groups)
        split = (("p",), ("q",), ("r", "s"), ("t",))
        for sequence in [(), ((),), (("a",), ())]:
            parts = tuple((i, j, sequence if (i, j) == (0, 1) else ()) for i in range(4) for j in range(i + 1, 4))
            self.assertIs(self.told(split, parts), False)
        self.assertIs(self.told((("p", "q", "t"), ("r", "s")), ((0, 1, ()),)), False)
        self.assertIs(self.told((), ()), False)
        self.assertIs(self.told(((),), ()), False)

    def test_partings(self):
        first, second, third = (0, 1, ()), (0, 2, ()), (1, 2, ())
        wrong = [
            (), (first, second), (first, third, second), (first, second, third, third), (first, first, third),
            [first, second, third], ([0, 1, ()], second, third), ((False, 1, ()), second, third),
            ((0, True, ()), second, third), ((0, 1), second, third), ((0, 1, (), ()), second, third),
            ((1, 0, ()), second, third), (first, second, (1, 2, [])), (first, second, (1, 2, None)),
            (first, second, (True, 2, ())), (first, second, (1, 2, (("a", "b"),))), (first, second, (1, 2, ("a",))),
            (first, second, (1, 2, (["a"],))), (first, second, (1, 2, ("",))), (first, second, (1, 2, (("c",),))),
            (first, (0, 3, ()), third), (first, second, 1), ((0, 1, ((), ("a",))), second, third), ("01(", second, third)]
        for partings in wrong + any_values():
            self.assertIs(self.told(self.GROUPS, partings), False, partings)
        self.assertIs(self.told((("u",),), ((),), ("u",)), False)
        self.assertIs(self.told((("u",),), [], ("u",)), False)

    def test_parting_by_the_first_states(self):
        look = [looked(self.program, run(self.program, state, (("b",),))) for state in "pr"]
        self.assertNotEqual(look[0], look[1])
        for sequence, right in [((), True), ((("b",),), True), ((("a",),), True), (((),), False)]:
            partings = ((0, 1, sequence), (0, 2, ()), (1, 2, ()))
            same = looked(self.program, run(self.program, "p", sequence)) == \
                looked(self.program, run(self.program, "r", sequence))
            self.assertIs(self.told(self.GROUPS, partings), not same)

    def test_any_object(self):
        for value in [self.program, self.ROWS, NONE, self.program["p"], Classes(self.program, self.ROWS, "p")]:
            self.assertIs(self.told(value, value), False)
            self.assertIs(self.told((value,), ()), False)
            self.assertIs(self.told(((value,),), ()), False)
            self.assertIs(self.told(self.GROUPS, (value, value, value)), False)
            self.assertIs(self.told(self.GROUPS, ((value, value, value),) * 3), False)
