import inspect
import unittest

from orplaces import errors
from support import Loud, any_values

LISTED = {
    "InvalidName": ["value"], "InvalidNumber": ["value"], "InvalidRows": ["part"], "InvalidRow": ["value"],
    "InvalidKind": ["part"], "InvalidFrame": ["part"], "InvalidWord": ["part"], "InvalidAddress": ["address"],
    "InvalidText": ["line", "word"], "FieldClash": ["field", "one", "other"], "Clash": ["lesser", "name"],
    "StateClash": ["name"], "Locked": ["address"], "Blank": ["address"], "NotPossible": ["row"],
    "NoCondition": ["name"], "NoField": ["name"], "NoKind": ["name"], "NoState": ["name"], "NoTarget": ["value"],
    "NoClass": ["value"], "NoLanding": ["value"], "NoCase": ["case"], "NoStates": [], "NoEntries": [], "NotEnd": [],
    "NotCarried": [], "NotReady": ["part"], "Unlike": [], "Taken": ["name"], "WrongCount": ["wanted"],
    "TooMany": ["part"], "TooLarge": ["limit"],
}


class ErrorsTest(unittest.TestCase):
    def test_listed_classes_and_no_others(self):
        found = [name for name, value in vars(errors).items() if inspect.isclass(value)]
        self.assertEqual(sorted(found), sorted([*LISTED, "OrError"]))

    def test_bases(self):
        self.assertEqual(errors.OrError.__bases__, (ValueError,))
        for name in LISTED:
            self.assertEqual(getattr(errors, name).__bases__, (errors.OrError,), name)

    def test_no_listed_class_is_another_one(self):
        for name, parts in LISTED.items():
            error = getattr(errors, name)(*parts)
            self.assertEqual([other for other in LISTED if isinstance(error, getattr(errors, other))], [name])
            self.assertIsInstance(error, errors.OrError)
            self.assertIsInstance(error, ValueError)

    def test_keeps_the_very_objects(self):
        values = any_values() + [Loud(), errors.OrError]
        for name, parts in LISTED.items():
            for at in range(len(values)):
                passed = [values[(at + k) % len(values)] for k in range(len(parts))]
                error = getattr(errors, name)(*passed)
                self.assertEqual(list(vars(error)), parts)
                for part, value in zip(parts, passed):
                    self.assertIs(getattr(error, part), value)

    def test_exactly_the_listed_arguments(self):
        for name, parts in LISTED.items():
            error = getattr(errors, name)
            with self.assertRaises(TypeError):
                error(*parts, "more")
            if parts:
                with self.assertRaises(TypeError):
                    error(*parts[1:])
                named = error(**{part: [part] for part in parts})
                self.assertEqual(vars(named), {part: [part] for part in parts})

    def test_raised_and_caught(self):
        for name, parts in LISTED.items():
            with self.assertRaises(errors.OrError) as caught:
                raise getattr(errors, name)(*parts)
            self.assertEqual(vars(caught.exception), {part: part for part in parts})
