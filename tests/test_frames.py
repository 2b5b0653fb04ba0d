import unittest

from orplaces.errors import InvalidAddress, InvalidFrame, InvalidWord, NoKind
from orplaces.frames import Frame
from orplaces.kinds import AnyOf, Kind, Masks, Test, Window
from orplaces.rows import Rows
from orplaces.signals import Signals
from orplaces.stores import Word
from makers import maker, moved, moved_frame, moved_row, some_frame
from support import Checks, any_values

ROWS = Rows(("a", "b"), (), ("a",), ("b",), ("a", "b"))
FRAME = Frame(3, ROWS, ("out",), Kind("n"), Test("t", "a", 0), Masks("ab", {"a": 1, "b": 2}))
NINE = ["f1", "f2", "f3", "f4", "f5", "f6", "f7", "f8", "f9"]


class FrameTest(unittest.TestCase, Checks):
    def test_examples_of_the_document(self):
        told = [FRAME.landing("ab", 0), FRAME.landing("ab", 1), FRAME.landing("n", 5), FRAME.page(6),
                list(FRAME.pages())]
        self.assertEqual(told, [(0, 1, 2, 3), (1, 1, 3, 3), (5, 5, 5, 5), 4, [(0, 1, 2, 3), (4, 5, 6, 7)]])
        few = FRAME.with_rows(Rows(("a", "b"), (), ("a",)))
        told = [few.landing("ab", 4), few.idle, FRAME.idle, FRAME.wider().idle, len(FRAME.without("t"))]
        self.assertEqual(told, [(4, 5), 6, 4, 12, 2])
        self.assert_error(InvalidFrame, {"part": "kinds"}, Frame, 1, ROWS, ("out",), Masks("ab", {"a": 1, "b": 2}))

    def test_attributes(self):
        fields, kinds = ["x", "a"], [Kind("n"), Kind("m")]
        for frame in [Frame(8, ROWS, fields, *kinds), Frame.of(8, ROWS, tuple(fields), kinds)]:
            self.assertEqual([frame.width, frame.rows, frame.fields, frame.size], [8, ROWS, ("x", "a"), 256])
            self.assertEqual([frame.kinds, len(frame)], [tuple(kinds), 2])
        frame = Frame.of(8, ROWS, fields, kinds)
        fields.append("z")
        kinds.clear()
        self.assertEqual([frame.fields, len(frame)], [("x", "a"), 2])
        self.assertEqual([Frame.MOST_WIDTH, Frame.MOST_FIELDS, Frame.MOST_KINDS], [8, 8, 8])

    def test_refused(self):
        for value in any_values() + [0, 9, "3", (3,)]:
            self.assert_error(InvalidFrame, {"part": "width"}, Frame, value, None, None)
        for value in any_values() + [("a", "b"), FRAME]:
            self.assert_error(InvalidFrame, {"part": "rows"}, Frame, 1, value, None)
        for value in any_values() + [(), [], "out", {"out": 1}, ["a", "a"], ("a", "A"), NINE, ["a", None], ROWS]:
            if value != ["a"]:
                self.assert_error(InvalidFrame, {"part": "fields"}, Frame, 8, ROWS, value)
        for value in any_values() + ["n", ROWS, Kind, Kind("n"), Test("t", "c", 0), Test("t", "a", 3)]:
            self.assert_error(InvalidFrame, {"part": "kinds"}, Frame, 3, ROWS, ("a",), Kind("n"), value)

    def test_edges_that_just_fit(self):
        kinds = [Kind(name) for name in NINE]
        frame = Frame.of(1, ROWS, NINE[:8], kinds[:8])
        self.assertEqual([len(frame), frame.size, frame.fields], [8, 2, tuple(NINE[:8])])
        self.assert_error(InvalidFrame, {"part": "kinds"}, Frame, 1, ROWS, ["x"], *kinds)
        self.assert_error(InvalidFrame, {"part": "kinds"}, Frame, 1, ROWS, ["x"])
        self.assertEqual(len(Frame(1, ROWS, ["x"], Masks("m", {"a": 1, "c": 0}))), 1)
        for width in range(1, 8):
            self.assertEqual(Frame(width + 1, ROWS, ["x"], Test("t", "b", width)).size, 2 ** (width + 1))
            self.assert_error(InvalidFrame, {"part": "kinds"}, Frame, width, ROWS, ["x"], Test("t", "b", width))
        few = Rows(("a", "b"), ())
        self.assert_error(InvalidFrame, {"part": "kinds"}, Frame, 1, few, ["x"], AnyOf("o", 1, "b"))

    def test_idle_and_pages(self):
        frame = Frame(3, Rows(("a", "b"), (), ("b",)), ("x",), Window("w", 0, "a", "b"))
        self.assertEqual([frame.idle, list(frame.pages())], [5, [(0, 2), (1, 3), (4, 6), (5, 7)]])
        self.assertEqual([frame.page(address) for address in range(8)], [0, 1, 0, 1, 4, 5, 4, 5])
        whole = Frame(2, ROWS, ("x",), Window("w", 0, "a", "b"))
        self.assertEqual([whole.idle, list(whole.pages())], [0, [(0, 1, 2, 3)]])
        none = Frame(1, ROWS, ("x",), Kind("n"))
        self.assertEqual([none.idle, list(none.pages())], [1, [(0,), (1,)]])
        for value in any_values() + [8, "0", (0,)]:
            self.assert_error(InvalidAddress, {"address": value}, frame.page, value)

    def test_kinds_by_name(self):
        self.assertEqual([FRAME["t"], "t" in FRAME, "m" in FRAME], [FRAME.kinds[1], True, False])
        for value in any_values() + ["m", ("n",), Kind("n")]:
            self.assertIs(value in FRAME, False)
            self.assert_error(NoKind, {"name": value}, lambda: FRAME[value])
            self.assert_error(NoKind, {"name": value}, FRAME.landing, value, None)
            self.assert_error(NoKind, {"name": value}, FRAME.without, value)
        for value in any_values() + [8, "0"]:
            self.assert_error(InvalidAddress, {"address": value}, FRAME.landing, "ab", value)

    def test_check(self):
        for word in [Word.of("n", 0), Word.of("ab", 7, out=10 ** 9), Word.of("t", 1, other=0)]:
            self.assertIsNone(FRAME.check(word))
        wrong = [(value, "word") for value in any_values() + [Signals(), FRAME, "n 0"]]
        wrong += [(Word.of("m", 8, x=1), "kind"), (Word.of("n", 8, x=1), "base"), (Word.of("n", 7, x=1), "signals")]
        for word, part in wrong:
            self.assert_error(InvalidWord, {"part": part}, FRAME.check, word)

    def test_equal(self):
        same = Frame.of(3, Rows.full(("a", "b")), ["out"], [Kind("n"), Masks("t", {"a": 1}), FRAME["ab"]])
        self.assertIs(FRAME == same, True)
        others = [FRAME.wider(), FRAME.without("n"), FRAME.with_rows(Rows(("a", "b"), ())),
                  Frame(3, ROWS, ("in",), *FRAME.kinds), Frame(3, ROWS, ("out",), *FRAME.kinds[::-1]),
                  Frame(3, ROWS, ("out", "in"), *FRAME.kinds), Frame(3, Rows.full(("b", "a")), ("out",), *FRAME.kinds)]
        for other in others + any_values():
            self.assertIs(FRAME == other, False)
            self.assertIs(other == FRAME, False)

    def test_wider(self):
        self.assertEqual([FRAME.wider(0), FRAME.wider(5).width, FRAME.width], [FRAME, 8, 3])
        self.assertEqual(FRAME.wider(), Frame(4, ROWS, ("out",), *FRAME.kinds))
        self.assert_error(InvalidFrame, {"part": "width"}, FRAME.wider, 6)

    def test_with_kinds_and_without(self):
        more = FRAME.with_kinds(Test("u", "b", 2), Kind("v"))
        self.assertEqual([kind.name for kind in more.kinds], ["n", "t", "ab", "u", "v"])
        self.assertEqual([more.without("v").without("u"), FRAME.with_kinds()], [FRAME, FRAME])
        for value in any_values() + [Kind("n"), Test("u", "b", 3), Test("u", "c", 0)]:
            self.assert_error(InvalidFrame, {"part": "kinds"}, FRAME.with_kinds, value)
        self.assert_error(InvalidFrame, {"part": "kinds"}, FRAME.without("t").without("n").without, "ab")

    def test_with_rows(self):
        few = Rows(("a", "b"), ("b",))
        self.assertEqual([FRAME.with_rows(few).rows, FRAME.rows], [few, ROWS])
        for value in any_values() + [Rows.full(("b", "a")), Rows.full(("a",)), Rows.full(("a", "b", "c")), ("a", "b")]:
            self.assert_error(InvalidFrame, {"part": "rows"}, FRAME.with_rows, value)


class MovedTest(unittest.TestCase):
    def test_bits_and_names_that_are_moved(self):
        for seed in range(40):
            rng = maker(seed)
            frame = some_frame(rng, 4, ("a", "b", "c"))
            bits, names = rng.sample(range(4), 4), {"n": "k2", "k0": "n", "k1": "k0", "k2": "k1"}
            other = moved_frame(frame, bits, names, {"a": "b", "b": "c", "c": "a"})
            self.assertEqual(other.idle, moved(frame.idle, bits))
            for kind in frame.kinds:
                for base in range(16):
                    landing = tuple(moved(at, bits) for at in frame.landing(kind.name, base))
                    self.assertEqual(other.landing(names[kind.name], moved(base, bits)), landing)
            pages = [sorted(moved(at, bits) for at in page) for page in frame.pages()]
            self.assertEqual([list(page) for page in other.pages()], sorted(pages))
            self.assertEqual(other.rows.possible, tuple(moved_row(row, {"a": "b", "b": "c", "c": "a"})
                                                        for row in frame.rows.possible))

    def test_landings_and_pages_as_a_whole(self):
        for seed in range(40):
            frame = some_frame(maker(seed), 4, ("a", "b", "c"))
            pages = list(frame.pages())
            self.assertEqual(sorted(at for page in pages for at in page), list(range(16)))
            self.assertEqual([page[0] for page in pages], sorted(page[0] for page in pages))
            for page in pages:
                self.assertEqual([frame.page(at) for at in page], [page[0]] * len(page))
            for kind in frame.kinds:
                for base in range(16):
                    landing = frame.landing(kind.name, base)
                    self.assertEqual(landing, tuple(base | kind(row) for row in frame.rows.possible))
                    self.assertEqual({frame.page(at) for at in landing}, {frame.page(base)})
                    self.assertEqual(frame.wider().landing(kind.name, base + 16), tuple(at + 16 for at in landing))
