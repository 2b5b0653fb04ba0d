import unittest

from orplaces.errors import InvalidName, InvalidNumber, InvalidWord
from orplaces.signals import Draft, Signals
from orplaces.stores import Word
from support import Checks, any_values


class WordTest(unittest.TestCase, Checks):
    def test_attributes(self):
        signals = Signals(a=1)
        word = Word("n", 255, signals)
        self.assertEqual([word.kind, word.base], ["n", 255])
        self.assertIs(word.signals, signals)
        self.assertEqual(Word("abcdefgh", 0, Signals()).base, 0)

    def test_of(self):
        word = Word.of("n", 3, b=2, a=1, c=0)
        self.assertEqual([word.kind, word.base, word.signals], ["n", 3, Signals(a=1, b=2)])
        self.assertEqual(Word.of("n", 3).signals, Signals())
        self.assertEqual(str(Word.of("n", 3, self=1, signals=2, fields=3)), "n 3 fields=3 self=1 signals=2")

    def test_of_raises_what_signals_raises_first(self):
        self.assert_error(InvalidNumber, {"value": None}, Word.of, "TO", None, a=None)
        self.assert_error(InvalidNumber, {"value": 10 ** 9 + 1}, Word.of, "n", 0, b=-1, a=10 ** 9 + 1)
        for field in ["A", "this_object", "to", "abcdefghi"]:
            self.assert_error(InvalidName, {"value": field}, lambda: Word.of(None, -1, **{field: -1}))
        self.assert_error(InvalidName, {"value": "A"}, lambda: Word.of("n", 0, **{"a": -1, "A": 1}))
        self.assert_error(InvalidWord, {"part": "kind"}, Word.of, "TO", None, a=1)
        self.assert_error(InvalidWord, {"part": "base"}, Word.of, "n", 256, a=1)

    def test_refused(self):
        for value in any_values() + ["A", ("n",), 0, 3, Signals()]:
            self.assert_error(InvalidWord, {"part": "kind"}, Word, value, value, value)
        for value in any_values() + [256, "0", (0,), [0], Signals()]:
            self.assert_error(InvalidWord, {"part": "base"}, Word, "n", value, value)
        for value in any_values() + [0, Draft(), "none", (("a", 1),), Word.of("n", 0)]:
            self.assert_error(InvalidWord, {"part": "signals"}, Word, "n", 0, value)

    def test_bases_that_just_fit(self):
        self.assertEqual([Word("n", base, Signals()).base for base in (0, 1, 254, 255)], [0, 1, 254, 255])
        for base in (-1, 256):
            self.assert_error(InvalidWord, {"part": "base"}, Word, "n", base, Signals())

    def test_field(self):
        word = Word.of("n", 3, a=1)
        self.assertEqual([word["a"], word["b"]], [1, 0])
        for field in any_values() + ["A", ("a",), 0]:
            self.assert_error(InvalidName, {"value": field}, lambda: word[field])

    def test_equal(self):
        word = Word.of("n", 3, a=1)
        self.assertIs(word == Word("n", 3, Signals(a=1, b=0)), True)
        for other in [Word.of("m", 3, a=1), Word.of("n", 2, a=1), Word.of("n", 3, a=2), Word.of("n", 3)]:
            self.assertIs(word != other, True)
            self.assertIs(word == other, False)
        for value in any_values() + [str(word), ("n", 3, word.signals), word.signals]:
            self.assertIs(word == value, False)
            self.assertIs(value == word, False)

    def test_str(self):
        self.assertEqual(str(Word.of("n", 3)), "n 3")
        self.assertEqual(str(Word.of("n", 0, a=0)), "n 0")
        self.assertEqual(str(Word.of("tw", 255, bus=1, alu=10 ** 9, z=0)), "tw 255 alu=1000000000 bus=1")
