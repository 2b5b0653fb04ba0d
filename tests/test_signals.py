import itertools
import unittest

from orplaces.errors import Clash, FieldClash, InvalidName, InvalidNumber
from orplaces.signals import Draft, Signals, merged
from support import Checks, any_values

WRONG_NAMES = any_values() + ["this_object", "A", "a-b", "ninesigns", ("a",), ["a"], 0, 1, Signals(a=1)]
WRONG_NUMBERS = any_values() + [10 ** 9 + 1, "1", (1,), [1], {1: 1}, Signals(a=1)]


class ToldTest(unittest.TestCase, Checks):
    def test_examples_of_the_document(self):
        s, t = Signals(alu=3, bus=1), Signals(shift=2, bus=1)
        told = [str(s | t), s["shift"], len(s), bool(Signals(alu=0)), Signals(bus=1).within(s),
                s == Signals(bus=1, alu=3, shift=0)]
        self.assertEqual(told, ["alu=3 bus=1 shift=2", 0, 2, False, True, True])
        clash = self.assert_error(Clash, {"lesser": "read", "name": "write"}, merged,
                                  {"write": Signals(bus=2, alu=4), "zero": t, "read": s})
        self.assertEqual(vars(clash.__cause__), {"field": "alu", "one": 3, "other": 4})
        self.assertIs(clash.__cause__.__class__, FieldClash)
        draft = Draft(s)
        draft["alu"] = 0
        draft |= t
        self.assertEqual(repr([draft, draft.present == t, draft["bus"]]), "[Draft(bus=1, shift=2), True, 1]")

    def test_told(self):
        self.assertEqual(Signals(b=2, a=1, c=0, a1=10 ** 9).told, (("a", 1), ("a1", 10 ** 9), ("b", 2)))
        self.assertEqual([Signals().told, Signals(a=0).told], [(), ()])
        self.assertEqual(Signals.MOST, 10 ** 9)

    def test_fields_of_any_name(self):
        signals = Signals(self=1, cls=2, pairs=3, field=4, at=5, other=6)
        self.assertEqual(str(signals), "at=5 cls=2 field=4 other=6 pairs=3 self=1")
        self.assertEqual(Signals.of(list(signals.told)), signals)

    def test_of(self):
        for pairs in [[("b", 2), ("a", 1), ("c", 0)], (("b", 2), ("a", 1), ("c", 0)), [["b", 2], ["a", 1]]]:
            before = repr(pairs)
            self.assertEqual(Signals.of(pairs), Signals(a=1, b=2))
            self.assertEqual(repr(pairs), before)
        self.assertEqual([Signals.of([]), Signals.of(())], [Signals(), Signals()])

    def test_a_passed_list_is_not_kept(self):
        pairs = [("a", 1)]
        signals = Signals.of(pairs)
        pairs.append(("b", 1))
        self.assertEqual(signals, Signals(a=1))
        fields = {"a": 1}
        signals = Signals(**fields)
        fields["a"] = 2
        self.assertEqual(signals, Signals(a=1))

    def test_field(self):
        signals = Signals(a=1, b=10 ** 9, c=0)
        self.assertEqual([signals["a"], signals["b"], signals["c"], signals["none1"]], [1, 10 ** 9, 0, 0])
        for field in WRONG_NAMES:
            self.assert_error(InvalidName, {"value": field}, lambda: signals[field])

    def test_len_and_bool(self):
        self.assertEqual([len(Signals()), len(Signals(a=0)), len(Signals(a=1, b=0, c=2))], [0, 0, 2])
        self.assertEqual([bool(Signals()), bool(Signals(a=0)), bool(Signals(b=1))], [False, False, True])

    def test_str_and_repr(self):
        self.assertEqual([str(Signals()), str(Signals(a=0))], ["none", "none"])
        self.assertEqual([repr(Signals()), repr(Signals(a=0))], ["Signals()", "Signals()"])
        self.assertEqual(str(Signals(bus=1, alu=3, z=0)), "alu=3 bus=1")
        self.assertEqual(repr(Signals(bus=1, alu=3, z=0)), "Signals(alu=3, bus=1)")
        self.assertEqual([str(Signals(a=10 ** 9)), repr(Signals(a=1))], ["a=1000000000", "Signals(a=1)"])

    def test_equal(self):
        signals = Signals(a=1, b=2)
        self.assertIs(signals == Signals(b=2, a=1, c=0), True)
        for other in [Signals(), Signals(a=1), Signals(a=2, b=2), Signals(a=1, b=2, c=3), Signals(a=1, c=2)]:
            self.assertIs(signals != other, True)
        for value in any_values() + [signals.told, str(signals), Draft(signals), {"a": 1, "b": 2}]:
            self.assertIs(signals == value, False)
            self.assertIs(value == signals, False)
        self.assertIs(Signals() == (), False)


class RefusedTest(unittest.TestCase, Checks):
    def test_numbers_that_just_fit(self):
        self.assertEqual(Signals(a=0, b=10 ** 9).told, (("b", 10 ** 9),))
        self.assert_error(InvalidNumber, {"value": 10 ** 9 + 1}, Signals, a=10 ** 9 + 1)
        self.assert_error(InvalidNumber, {"value": -1}, Signals.of, [("a", -1)])

    def test_wrong_numbers(self):
        for number in WRONG_NUMBERS:
            self.assert_error(InvalidNumber, {"value": number}, Signals, a=1, b=number)
            self.assert_error(InvalidNumber, {"value": number}, Signals.of, [("b", 1), ("a", number), ("b", 2)])

    def test_wrong_names(self):
        for field in ["A", "", "to", "none", "abcdefghi", "a b", "1", "a_"]:
            self.assert_error(InvalidName, {"value": field}, lambda: Signals(**{field: 1}))
        for field in WRONG_NAMES:
            self.assert_error(InvalidName, {"value": field}, Signals.of, [("a", 1), (field, 2), ("b", -1)])

    def test_the_first_field_ascending(self):
        self.assert_error(InvalidNumber, {"value": None}, Signals, c=True, b=None, a=1)
        self.assert_error(InvalidNumber, {"value": -1}, lambda: Signals(**{"b_": 1, "a": -1}))
        self.assert_error(InvalidName, {"value": "a_"}, lambda: Signals(**{"b": -1, "a_": 1}))
        self.assert_error(InvalidName, {"value": "A"}, lambda: Signals(**{"a": -1, "A": None, "b": []}))

    def test_name_ahead_of_number(self):
        self.assert_error(InvalidName, {"value": "A"}, lambda: Signals(**{"A": -1}))
        self.assert_error(InvalidName, {"value": 3}, Signals.of, [(3, -1)])

    def test_the_first_pair(self):
        self.assert_error(InvalidNumber, {"value": -2}, Signals.of, [("z", -2), ("A", 1)])
        self.assert_error(InvalidName, {"value": "A"}, Signals.of, [("z", 2), ("A", -1), ("b", -2)])

    def test_a_field_twice(self):
        for second in [1, 0, -1, None]:
            self.assert_error(InvalidName, {"value": "a"}, Signals.of, [("a", 0), ("b", 1), ("a", second)])


class UnitedTest(unittest.TestCase, Checks):
    def test_united(self):
        one, other = Signals(a=1, b=2), Signals(b=2, c=3)
        self.assertEqual(one | other, Signals(a=1, b=2, c=3))
        self.assertEqual([one, other], [Signals(a=1, b=2), Signals(b=2, c=3)])
        self.assertEqual([one | Signals(), Signals() | one], [one, one])

    def test_clash(self):
        one, other = Signals(a=1, b=2, c=3), Signals(c=4, b=5, d=1)
        self.assert_error(FieldClash, {"field": "b", "one": 2, "other": 5}, lambda: one | other)
        self.assert_error(FieldClash, {"field": "b", "one": 5, "other": 2}, lambda: other | one)
        self.assertEqual([str(one), str(other)], ["a=1 b=2 c=3", "b=5 c=4 d=1"])

    def test_within(self):
        s = Signals(a=1, b=2)
        told = [part.within(s) for part in [Signals(), Signals(b=2), s, Signals(a=2), Signals(c=1), Signals(a=1, c=1)]]
        self.assertEqual(told, [True, True, True, False, False, False])
        self.assertEqual([s.within(Signals()), s.within(s | Signals(c=1))], [False, True])


class MergedTest(unittest.TestCase, Checks):
    def test_merged(self):
        parts = {"b": Signals(x=1), "a": Signals(y=2, x=1), "c": Signals()}
        self.assertEqual(merged(parts), Signals(x=1, y=2))
        self.assertEqual(parts, {"b": Signals(x=1), "a": Signals(y=2, x=1), "c": Signals()})
        self.assertEqual(merged({}), Signals())

    def assert_clash(self, parts, lesser, name, field, one, other):
        clash = self.assert_error(Clash, {"lesser": lesser, "name": name}, merged, parts)
        self.assertIs(clash.__cause__.__class__, FieldClash)
        self.assertEqual(vars(clash.__cause__), {"field": field, "one": one, "other": other})

    def test_the_first_name_and_its_least_lesser_one(self):
        parts = {"d": Signals(x=9), "c": Signals(y=2, x=1), "b": Signals(y=1), "a": Signals(x=1)}
        self.assert_clash(parts, "b", "c", "y", 1, 2)
        parts = {"d": Signals(x=9, y=2), "c": Signals(y=1), "b": Signals(x=1), "a": Signals(z=1)}
        self.assert_clash(parts, "b", "d", "x", 1, 9)
        parts = {"a": Signals(x=1), "b": Signals(x=1, y=1), "c": Signals(y=2, x=3)}
        self.assert_clash(parts, "a", "c", "x", 1, 3)

    def test_the_first_field_of_both(self):
        self.assert_clash({"a": Signals(x=1, y=1), "b": Signals(y=2, x=3)}, "a", "b", "x", 1, 3)


class DraftTest(unittest.TestCase, Checks):
    def test_made(self):
        self.assertEqual([repr(Draft()), repr(Draft(None)), repr(Draft(Signals(alu=3)))],
                         ["Draft()", "Draft()", "Draft(alu=3)"])
        signals = Signals(a=1)
        draft = Draft(signals)
        draft["a"] = 2
        self.assertEqual([signals, draft.present], [Signals(a=1), Signals(a=2)])

    def test_reading_and_setting(self):
        draft = Draft()
        draft["b"] = 10 ** 9
        draft["a"] = 1
        draft["c"] = 0
        self.assertEqual([draft["a"], draft["b"], draft["c"], draft["d"]], [1, 10 ** 9, 0, 0])
        self.assertEqual([repr(draft), draft.present.told], ["Draft(a=1, b=1000000000)", (("a", 1), ("b", 10 ** 9))])
        draft["b"] = 0
        self.assertEqual([repr(draft), draft == Draft(Signals(a=1))], ["Draft(a=1)", True])

    def test_refused(self):
        draft = Draft(Signals(a=1))
        for field in WRONG_NAMES:
            self.assert_error(InvalidName, {"value": field}, lambda: draft[field])
            self.assert_error(InvalidName, {"value": field}, draft.__setitem__, field, -1)
        for number in WRONG_NUMBERS:
            self.assert_error(InvalidNumber, {"value": number}, draft.__setitem__, "a", number)
        self.assertEqual(draft.present, Signals(a=1))

    def test_put(self):
        draft, signals = Draft(Signals(a=1, b=2)), Signals(a=3, c=4, b=0)
        self.assertIsNone(draft.put(signals))
        self.assertEqual([draft.present, signals], [Signals(a=3, b=2, c=4), Signals(a=3, c=4)])

    def test_united(self):
        draft = Draft(Signals(a=1))
        same = draft
        draft |= Signals(a=1, b=2)
        self.assertIs(same, draft)
        self.assertEqual(same.present, Signals(a=1, b=2))

    def test_clash(self):
        draft = Draft(Signals(b=1, c=2))
        with self.assertRaises(FieldClash) as caught:
            draft |= Signals(a=7, b=1, c=3, d=1)
        self.assertEqual(vars(caught.exception), {"field": "c", "one": 2, "other": 3})
        self.assertEqual(draft.present, Signals(b=1, c=2))
        draft["c"] = 0
        draft |= Signals(c=3)
        self.assertEqual(draft.present, Signals(b=1, c=3))

    def test_present_stays(self):
        draft = Draft(Signals(a=1))
        before = draft.present
        draft["a"] = 2
        self.assertEqual([before, draft.present], [Signals(a=1), Signals(a=2)])

    def test_equal(self):
        draft = Draft(Signals(a=1))
        draft["b"] = 0
        self.assertIs(draft == Draft(Signals(a=1)), True)
        self.assertIs(draft != Draft(Signals(a=2)), True)
        for value in any_values() + [Signals(a=1), (("a", 1),), "Draft(a=1)"]:
            self.assertIs(draft == value, False)
            self.assertIs(value == draft, False)


def union(*parts):
    """The union of some Signals from left to right, "clash" if there is none."""
    try:
        whole = Signals()
        for part in parts:
            whole = whole | part
        return whole
    except FieldClash:
        return "clash"


class UnionsAsAWholeTest(unittest.TestCase, Checks):
    SMALL = [Signals(x=x, y=y) for x in range(3) for y in range(3)]

    def test_two(self):
        for one, other in itertools.product(self.SMALL, repeat=2):
            clash = any(0 not in pair and pair[0] != pair[1] for pair in [(one[f], other[f]) for f in "xy"])
            self.assertEqual(union(one, other) == "clash", clash)
            self.assertEqual(union(one, other), union(other, one))
            self.assertEqual(union(one, one), one)
            self.assertEqual(one.within(other), union(one, other) == other)
            if not clash:
                self.assertTrue(one.within(one | other) and other.within(one | other))
                self.assertEqual([(one | other)[f] for f in "xy"], [max(one[f], other[f]) for f in "xy"])

    def test_three(self):
        for a, b, c in itertools.product(self.SMALL, repeat=3):
            whole = union(a, b, c)
            for order in itertools.permutations((a, b, c)):
                self.assertEqual(union(*order), whole)
            bc = union(b, c)
            self.assertEqual("clash" if bc == "clash" else union(a, bc), whole)
            pairs = [union(a, b), union(a, c), union(b, c)]
            self.assertEqual("clash" in pairs, whole == "clash")
            self.assert_merged(a, b, c, pairs, whole)
            self.assert_drafted(a, b, c, whole)

    def assert_merged(self, a, b, c, pairs, whole):
        parts = {"c": c, "a": a, "b": b}
        if whole != "clash":
            self.assertEqual(merged(parts), whole)
            self.assertTrue(all(part.within(whole) for part in (a, b, c)))
            return
        lesser, name = [("a", "b"), ("a", "c"), ("b", "c")][pairs.index("clash")]
        error = self.assert_error(Clash, {"lesser": lesser, "name": name}, merged, parts)
        told = self.assert_error(FieldClash, vars(error.__cause__), lambda: parts[lesser] | parts[name])
        self.assertEqual(vars(told), vars(error.__cause__))

    def assert_drafted(self, a, b, c, whole):
        draft = Draft(a)
        try:
            draft |= b
            draft |= c
            self.assertEqual(draft.present, whole)
        except FieldClash:
            self.assertEqual(whole, "clash")
            self.assertIn(draft.present, [a, union(a, b)])
