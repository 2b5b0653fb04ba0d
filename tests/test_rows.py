import itertools
import unittest

from orplaces.errors import InvalidRow, InvalidRows, NoCondition
from orplaces.rows import Rows
from support import Checks, any_values


class RowsMadeTest(unittest.TestCase, Checks):
    def test_examples_of_the_document(self):
        rows = Rows.full(("b", "a")).never("a", "b")
        told = [rows.possible, len(rows), rows == Rows(("b", "a"), ("a",), (), ("b",)), ("a",) in rows,
                ("b", "a") in rows]
        self.assertEqual(told, [((), ("b",), ("a",)), 3, True, True, False])
        self.assertEqual([rows.number(("b", "a")), rows.having("a", "b")], [3, ("b", "a")])
        self.assert_error(InvalidRow, {"value": ("a", "b")}, rows.number, ("a", "b"))

    def test_full_is_ordered_by_numbers(self):
        self.assertEqual(Rows.full(("a",)).possible, ((), ("a",)))
        self.assertEqual(Rows.full(("c", "b", "a")).possible, (
            (), ("c",), ("b",), ("c", "b"), ("a",), ("c", "a"), ("b", "a"), ("c", "b", "a")))
        five = Rows.full(("e", "d", "c", "b", "a"))
        self.assertEqual([len(five), five.conditions], [32, ("e", "d", "c", "b", "a")])
        self.assertEqual([five.number(row) for row in five.possible], list(range(32)))

    def test_possible_rows_are_put_in_order(self):
        for passed in itertools.permutations([(), ("a",), ("b",), ("a", "b")], 3):
            rows = Rows(("a", "b"), *passed)
            self.assertEqual(rows.possible, tuple(sorted(passed, key=rows.number)))

    def test_a_row_passed_twice_counts_once(self):
        rows = Rows(("a", "b"), ("b",), (), ("b",), ())
        self.assertEqual([rows.possible, len(rows)], [((), ("b",)), 2])

    def test_of_takes_lists_and_tuples(self):
        for possible in [[("b",), ()], (("b",), ())]:
            rows = Rows.of(("a", "b"), possible)
            self.assertEqual(rows, Rows(("a", "b"), (), ("b",)))
            self.assertEqual(list(possible), [("b",), ()])

    def test_wrong_conditions(self):
        six = ("a", "b", "c", "d", "e", "f")
        wrong = any_values() + [(), six, ("a", "a"), ("a", "b", "a"), ("to",), ("a", "B"), ("a", ["b"]), ["a"], "ab",
                                ("a", None), (("a",),), {"a": 1}, ("abcdefghi",), ("",)]
        for conditions in wrong:
            if conditions == ("a",):
                continue
            for make in [Rows, Rows.full, lambda value: Rows(value, ()), lambda value: Rows.of(value, [()]),
                         lambda value: Rows.of(value, []), lambda value: Rows(value, 3)]:
                self.assert_error(InvalidRows, {"part": "conditions"}, make, conditions)

    def test_as_many_conditions_as_may_be(self):
        self.assertEqual(Rows(("a",), ()).conditions, ("a",))
        self.assertEqual(len(Rows.full(("a", "abcdefgh", "c", "d", "e"))), 32)

    def test_wrong_rows(self):
        wrong = any_values() + [("b", "a"), ("a", "a"), ("c",), ("a", "c"), ["a"], ["a", "b"], "a", "ab", (("a",),),
                                ("a", None), ("a", True), {"a": "b"}, ("a", "b", "c"), ("a", "b", "b")]
        for row in wrong:
            self.assert_error(InvalidRow, {"value": row}, Rows, ("a", "b"), row)
            self.assert_error(InvalidRow, {"value": row}, Rows, ("a", "b"), (), row, ("a",), 7)
            self.assert_error(InvalidRow, {"value": row}, Rows.of, ("a", "b"), [("a",), row, None])

    def test_the_first_wrong_row_is_told(self):
        first, second = ["a"], ["a"]
        caught = self.assert_error(InvalidRow, {"value": first}, Rows, ("a",), first, second)
        self.assertIs(caught.value, first)

    def test_no_row(self):
        self.assert_error(InvalidRows, {"part": "possible"}, Rows, ("a", "b"))
        self.assert_error(InvalidRows, {"part": "possible"}, Rows.of, ("a", "b"), [])
        self.assert_error(InvalidRows, {"part": "possible"}, Rows.of, ("a", "b"), ())

    def test_repr(self):
        self.assertEqual(repr(Rows(("a", "b"), (), ("a",), ("b",))), "Rows(2 conditions, 3 rows)")
        self.assertEqual(repr(Rows(("a",), ())), "Rows(1 conditions, 1 rows)")
        self.assertEqual(repr(Rows.full(("a", "b", "c", "d", "e"))), "Rows(5 conditions, 32 rows)")


class NumbersOfRowsTest(unittest.TestCase, Checks):
    def test_numbers(self):
        rows = Rows(("z", "y", "x", "w", "v"), ())
        self.assertEqual(rows.number(()), 0)
        self.assertEqual([rows.number((name,)) for name in rows.conditions], [1, 2, 4, 8, 16])
        self.assertEqual([rows.number(("z", "x")), rows.number(("y", "v")), rows.number(rows.conditions)], [5, 18, 31])

    def test_number_of_no_row(self):
        rows = Rows.full(("a", "b"))
        for value in any_values() + [("b", "a"), ("a", "a"), ("c",), ["a"], "a", "ab", (("a",),), rows]:
            self.assert_error(InvalidRow, {"value": value}, rows.number, value)

    def test_having(self):
        rows = Rows(("c", "a", "b"), ())
        self.assertEqual(rows.having(), ())
        for names in itertools.permutations(("a", "b", "c")):
            self.assertEqual(rows.having(*names), ("c", "a", "b"))
        self.assertEqual([rows.having("b", "c"), rows.having("b", "b", "a", "b")], [("c", "b"), ("a", "b")])

    def test_having_no_condition(self):
        rows = Rows.full(("a", "b"))
        for name in any_values() + ["c", ("a",), ["a"], rows]:
            self.assert_error(NoCondition, {"name": name}, rows.having, name)
            self.assert_error(NoCondition, {"name": name}, rows.having, "b", "a", "b", name, "zz", None)


class RowsLeftOutTest(unittest.TestCase, Checks):
    def test_never(self):
        full = Rows.full(("a", "b", "c"))
        self.assertEqual(full.never("b").possible, ((), ("a",), ("c",), ("a", "c")))
        self.assertEqual(full.never("c", "a", "c").possible,
                         ((), ("a",), ("b",), ("a", "b"), ("c",), ("b", "c")))
        self.assertEqual(full.never("b").never("a").never("c").possible, ((),))
        self.assertEqual(full.never("b").conditions, ("a", "b", "c"))
        self.assertEqual(full, Rows.full(("a", "b", "c")))

    def test_never_agrees_with_its_words(self):
        full = Rows.full(("a", "b", "c", "d"))
        for many in range(1, 5):
            for names in itertools.permutations(full.conditions, many):
                left = tuple(row for row in full.possible if not set(names) <= set(row))
                self.assertEqual(full.never(*names), Rows(full.conditions, *left))

    def test_never_what_does_not_come_anyway(self):
        rows = Rows(("a", "b"), ("a",))
        self.assertEqual(rows.never("b"), rows)
        self.assertEqual(rows.never("a", "b"), rows)

    def test_no_row_left(self):
        for rows in [Rows(("a", "b"), ("a",)), Rows(("a", "b"), ("a",), ("a", "b"))]:
            self.assert_error(InvalidRows, {"part": "possible"}, rows.never, "a")
            self.assertEqual(rows.possible[0], ("a",))
        for rows in [Rows.full(("a", "b")), Rows(("a",), ())]:
            self.assert_error(InvalidRows, {"part": "possible"}, rows.never)

    def test_never_no_condition(self):
        rows = Rows(("a", "b"), ("a",))
        for name in any_values() + ["c", ("a",)]:
            self.assert_error(NoCondition, {"name": name}, rows.never, "a", name, "d")

    def test_in(self):
        rows = Rows(("a", "b"), (), ("a", "b"))
        self.assertEqual([() in rows, ("a", "b") in rows], [True, True])
        for value in any_values() + [("a",), ("b",), ("b", "a"), ["a", "b"], "ab", "", ("a", "b", "b"), rows]:
            self.assertIs(value in rows, False)

    def test_equal(self):
        rows = Rows(("a", "b"), (), ("b",))
        self.assertIs(rows == Rows(("a", "b"), ("b",), (), ("b",)), True)
        self.assertIs(rows != Rows.of(("a", "b"), [(), ("b",)]), False)
        for other in [Rows(("b", "a"), (), ("b",)), Rows(("a", "b"), ()), Rows(("a", "b"), (), ("a",)),
                      Rows(("a", "b", "c"), (), ("b",)), Rows(("c", "b"), (), ("b",))]:
            self.assertIs(rows == other, False)
            self.assertIs(rows != other, True)
        for value in any_values() + [rows.possible, rows.conditions, (rows.conditions, rows.possible), repr(rows)]:
            self.assertIs(rows == value, False)
            self.assertIs(value == rows, False)
