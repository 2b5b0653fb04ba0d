import itertools
import unittest

from orplaces.errors import InvalidKind
from orplaces.kinds import AnyOf, Kind, Masks, Test, TestWindow, Window
from support import Checks, any_values

WRONG_NAMES = any_values() + ["A", "ninesigns", ("a",), ["a"], 0, 7, Kind("a")]
WRONG_BITS = any_values() + [8, 255, "0", (0,), [0], Kind("a")]
FIVE = ("a", "b", "c", "d", "e")


class MasksOfKindsTest(unittest.TestCase, Checks):
    def test_examples_of_the_document(self):
        kind = TestWindow("tw", "z", 0, 1, "a", "b")
        told = [kind(()), kind(("z",)), kind(("b", "a")), kind(("z", "b", "q")), kind.reach()]
        self.assertEqual(told, [0, 1, 6, 5, 7])
        told = [Window("w", 1, "a", "b") == Masks("w", {"b": 4, "a": 2, "c": 0}), AnyOf("w", 2, "a", "b")(("a", "b"))]
        self.assertEqual(told, [True, 4])
        self.assert_error(InvalidKind, {"part": "low"}, Window, "w", 6, "a", "b", "c")
        self.assert_error(InvalidKind, {"part": "name"}, Test, "to", "a", 9)

    def assert_masks(self, kind, masks):
        """The kind has these masks of its conditions, and what follows for all rows."""
        for many in range(len(masks) + 2):
            for row in itertools.permutations([*masks, "other"], many):
                bits = 0
                for condition in row:
                    bits |= masks.get(condition, 0)
                self.assertEqual([kind.mask(row), kind(row)], [bits, bits])
        self.assertEqual(kind.reach(), kind.mask(tuple(masks)))
        self.assertEqual(kind.mask(("q", "r", "s", "t", "u", "v", "w")), 0)

    def test_kind(self):
        self.assert_masks(Kind("k"), {})
        self.assertEqual([Kind("k").name, Kind("k").reach(), Kind.MOST_BIT], ["k", 0, 7])

    def test_test(self):
        for bit in range(8):
            self.assert_masks(Test("t", "a", bit), {"a": 2 ** bit})
        self.assertEqual(Test("t1", "a", 0).name, "t1")

    def test_window(self):
        self.assert_masks(Window("w", 0, "b", "a"), {"b": 1, "a": 2})
        self.assert_masks(Window("w", 7, "a"), {"a": 128})
        self.assert_masks(Window("w", 3, "d", "c", "b", "a", "e"), {"d": 8, "c": 16, "b": 32, "a": 64, "e": 128})
        self.assertEqual(Window("abcdefgh", 0, "a").name, "abcdefgh")

    def test_any_of(self):
        self.assert_masks(AnyOf("o", 0, "a"), {"a": 1})
        self.assert_masks(AnyOf("o", 7, *FIVE), {condition: 128 for condition in FIVE})

    def test_test_window(self):
        self.assert_masks(TestWindow("tw", "c", 7, 0, "a", "b"), {"a": 1, "b": 2, "c": 128})
        self.assert_masks(TestWindow("tw", "b", 7, 0, "a", "b"), {"a": 1, "b": 130})
        self.assert_masks(TestWindow("tw", "b", 1, 0, "a", "b"), {"a": 1, "b": 2})
        self.assert_masks(TestWindow("tw", "b", 0, 0, "a", "b"), {"a": 1, "b": 3})
        self.assertEqual(TestWindow("tw", "f", 0, 1, *FIVE).reach(), 63)

    def test_masks(self):
        self.assert_masks(Masks("m", {}), {})
        self.assert_masks(Masks("m", {"a": 0, "b": 255, "c": 6, "d": 3}), {"a": 0, "b": 255, "c": 6, "d": 3})
        self.assertEqual(Masks("m", {condition: 1 for condition in FIVE}).reach(), 1)

    def test_of(self):
        for conditions in [["b", "a"], ("b", "a")]:
            self.assertEqual(Window.of("w", 1, conditions), Window("w", 1, "b", "a"))
            self.assertEqual(AnyOf.of("w", 1, conditions), AnyOf("w", 1, "b", "a"))
            self.assertEqual(list(conditions), ["b", "a"])
        self.assertIs(Window.of("w", 1, ["a"]).__class__, Window)
        self.assertIs(AnyOf.of("w", 1, ["a"]).__class__, AnyOf)

    def test_what_is_passed_stays_apart(self):
        masks = {"a": 1, "b": 0}
        kind = Masks("m", masks)
        self.assertEqual(masks, {"a": 1, "b": 0})
        masks["a"] = 2
        masks["c"] = 4
        self.assertEqual([kind(("a", "b", "c")), kind.reach()], [1, 1])
        conditions = ["a", "b"]
        kinds = [Window.of("w", 0, conditions), AnyOf.of("w", 0, conditions)]
        conditions.append("c")
        conditions[0] = "d"
        self.assertEqual(kinds, [Window("w", 0, "a", "b"), AnyOf("w", 0, "a", "b")])


class KindsRefusedTest(unittest.TestCase, Checks):
    def test_names(self):
        for name in WRONG_NAMES:
            for make in [Kind, lambda name: Test(name, None, None), lambda name: Window(name, None),
                         lambda name: AnyOf(name, None), lambda name: TestWindow(name, None, None, None),
                         lambda name: Masks(name, None), lambda name: Window.of(name, None, []),
                         lambda name: AnyOf.of(name, None, [])]:
                self.assert_error(InvalidKind, {"part": "name"}, make, name)

    def test_conditions_of_a_test(self):
        for condition in WRONG_NAMES:
            self.assert_error(InvalidKind, {"part": "condition"}, Test, "t", condition, -1)
            self.assert_error(InvalidKind, {"part": "condition"}, TestWindow, "t", condition, -1, -1)

    def test_bits(self):
        for bit in WRONG_BITS:
            self.assert_error(InvalidKind, {"part": "bit"}, Test, "t", "a", bit)
            self.assert_error(InvalidKind, {"part": "bit"}, AnyOf, "t", bit)
            self.assert_error(InvalidKind, {"part": "bit"}, AnyOf, "t", bit, "a", "a")
            self.assert_error(InvalidKind, {"part": "bit"}, AnyOf.of, "t", bit, ["a"])
            self.assert_error(InvalidKind, {"part": "bit"}, TestWindow, "t", "a", bit, 8, "a", "a")

    def test_low(self):
        for low in WRONG_BITS:
            self.assert_error(InvalidKind, {"part": "low"}, Window, "w", low, "a")
            self.assert_error(InvalidKind, {"part": "low"}, Window, "w", low)
            self.assert_error(InvalidKind, {"part": "low"}, Window, "w", low, "a", "a")
            self.assert_error(InvalidKind, {"part": "low"}, Window.of, "w", low, ["a"])
            self.assert_error(InvalidKind, {"part": "low"}, TestWindow, "w", "a", 7, low, "a", 3)

    def test_windows_that_just_fit(self):
        for many in range(1, 6):
            conditions = FIVE[:many]
            self.assertEqual(Window("w", 8 - many, *conditions)(conditions[-1:]), 128)
            self.assertEqual(TestWindow("w", "q", 0, 8 - many, *conditions)(conditions[-1:]), 128)
            if many > 1:
                self.assert_error(InvalidKind, {"part": "low"}, Window, "w", 9 - many, *conditions)
                self.assert_error(InvalidKind, {"part": "low"}, TestWindow, "w", "q", 0, 9 - many, *conditions)

    def test_low_ahead_of_conditions(self):
        self.assert_error(InvalidKind, {"part": "low"}, Window, "w", 7, "a", "a")
        self.assert_error(InvalidKind, {"part": "low"}, Window, "w", 7, None, 3)
        self.assert_error(InvalidKind, {"part": "conditions"}, Window, "w", 6, "a", "a")
        self.assert_error(InvalidKind, {"part": "low"}, Window, "w", 3, *FIVE, "f")
        self.assert_error(InvalidKind, {"part": "conditions"}, Window, "w", 2, *FIVE, "f")
        self.assert_error(InvalidKind, {"part": "conditions"}, Window, "w", 0, *FIVE, "f", "g", "h")
        self.assert_error(InvalidKind, {"part": "low"}, Window, "w", 0, *FIVE, "f", "g", "h", "i")

    def test_conditions(self):
        wrong = [(), ("a", "a"), (*FIVE, "f"), ("a", "A"), ("to",), ("a", "b", "a")]
        wrong += [(value,) for value in WRONG_NAMES] + [("a", value) for value in WRONG_NAMES]
        for conditions in wrong:
            for make in [Window.of, AnyOf.of, lambda name, low, given: Window(name, low, *given),
                         lambda name, bit, given: AnyOf(name, bit, *given),
                         lambda name, low, given: TestWindow(name, "a", 7, low, *given)]:
                self.assert_error(InvalidKind, {"part": "conditions"}, make, "w", 0, conditions)

    def test_masks(self):
        six = {condition: 0 for condition in (*FIVE, "f")}
        wrong = [six, {"A": 1}, {"a": 1, "to": 1}, {1: 1}, {None: 1}, {True: 1}, {("a",): 1}, {"a": 256}, {"a": -1}]
        wrong += [{"a": 1, "b": number} for number in any_values() + [256, "1", (1,), [1]]]
        wrong += [value for value in any_values() if value != {} and value != {"a": 1}]
        for masks in wrong + ["a", ("a",), [("a", 1)], Kind("a")]:
            self.assert_error(InvalidKind, {"part": "masks"}, Masks, "m", masks)

    def test_numbers_that_just_fit(self):
        self.assertEqual(Masks("m", {"a": 0, "b": 255})(("a", "b")), 255)
        self.assertEqual([Test("t", "a", 0)(("a",)), Test("t", "a", 7)(("a",))], [1, 128])
        self.assert_error(InvalidKind, {"part": "bit"}, Test, "t", "a", 8)


class EqualKindsTest(unittest.TestCase, Checks):
    def test_equal_over_the_family(self):
        alike = [
            [Kind("k"), Masks("k", {}), Masks("k", {"a": 0, "b": 0})],
            [Test("k", "a", 1), Window("k", 1, "a"), AnyOf("k", 1, "a"), Masks("k", {"a": 2}),
             TestWindow("k", "a", 1, 1, "a"), Masks("k", {"b": 0, "a": 2})],
            [Window("k", 0, "a", "b"), Masks("k", {"b": 2, "a": 1}), TestWindow("k", "b", 1, 0, "a", "b"),
             TestWindow("k", "a", 0, 1, "b")],
            [AnyOf("k", 0, "a", "b"), AnyOf("k", 0, "b", "a"), Masks("k", {"a": 1, "b": 1})],
            [TestWindow("k", "a", 3, 0, "a", "b"), Masks("k", {"a": 9, "b": 2})],
            [Window("k", 0, "b", "a")],
            [Kind("l")],
            [Test("l", "a", 1)],
        ]
        for at, group in enumerate(alike):
            for with_at, others in enumerate(alike):
                for one, other in itertools.product(group, others):
                    self.assertIs(one == other, at == with_at)
                    self.assertIs(one != other, at != with_at)

    def test_nothing_else_is_equal(self):
        for kind in [Kind("k"), Test("k", "a", 1), Masks("k", {"a": 2})]:
            for value in any_values() + ["k", ("k",), {"a": 2}]:
                self.assertIs(kind == value, False)
                self.assertIs(value == kind, False)

    def test_classes(self):
        family = [Kind, Test, Window, AnyOf, TestWindow, Masks]
        objects = [Kind("k"), Test("k", "a", 1), Window("k", 1, "a"), AnyOf("k", 1, "a"),
                   TestWindow("k", "a", 1, 1, "a"), Masks("k", {"a": 2})]
        told = [[each.__name__ for each in family if isinstance(one, each)] for one in objects]
        self.assertEqual(told, [["Kind"], ["Kind", "Test"], ["Kind", "Window"], ["Kind", "AnyOf"],
                                ["Kind", "Test", "Window", "TestWindow"], ["Kind", "Masks"]])
        self.assertEqual([each.MOST_BIT for each in family], [7] * 6)
