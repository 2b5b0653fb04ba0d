import unittest

from orplaces.names import is_name
from orplaces.rows import Rows
from support import any_values


class NamesTest(unittest.TestCase):
    def test_names(self):
        for name in ["a", "z", "a1", "a0z9", "abcdefgh", "z9999999", "tofu", "iff", "tags", "al", "non", "self"]:
            self.assertIs(is_name(name), True, name)

    def test_lengths(self):
        told = [is_name("b" * signs) for signs in (0, 1, 2, 7, 8, 9, 16)]
        self.assertEqual(told, [False, True, True, True, True, False, False])

    def test_reserved_words(self):
        for word in ["to", "if", "tag", "all", "none"]:
            self.assertIs(is_name(word), False, word)

    def test_every_sign(self):
        for code in list(range(32, 127)) + [10, 9, 13, 0, 0xb5, 0xe4, 0x661, 0x430, 0xff41]:
            sign = chr(code)
            small = sign in "abcdefghijklmnopqrstuvwxyz"
            digit = sign in "0123456789"
            self.assertIs(is_name(sign), small, repr(sign))
            self.assertIs(is_name("q" + sign), small or digit, repr(sign))
            self.assertIs(is_name(sign + "q"), small, repr(sign))
            self.assertIs(is_name("q" + sign + "q"), small or digit, repr(sign))

    def test_any_value(self):
        for value in any_values() + [Rows(("a",), ()), is_name, ("a",), ["a"], {"a": "a"}, b"a", 0, 1]:
            self.assertIs(is_name(value), False)
