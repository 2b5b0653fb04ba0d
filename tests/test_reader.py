import unittest

from makers import maker, some_frame, some_program, some_search, some_store
from orplaces.errors import InvalidAddress, InvalidFrame, InvalidKind, InvalidNumber, InvalidRows, InvalidText, InvalidWord
from orplaces.errors import NoState, OrError, TooMany
from orplaces.frames import Frame
from orplaces.kinds import Kind, Masks
from orplaces.programs import State
from orplaces.reader import read_floor, read_frame, read_program, read_row, read_store, read_word
from orplaces.rows import Rows
from orplaces.search import least
from orplaces.signals import Signals
from orplaces.stores import Store, Word
from orplaces.texts import floor_text, frame_text, program_text, store_text, word_text
from support import Checks, any_values

FRAME = "width 3\nconditions a b\nrows none b a+b\nfields alu bus\nkind n\nkind w a=1 b=6"
PROGRAM = "state s x=1 y=2 if a b to s u s u tag t\nstate u to s"
STORE = "word 1 w 2 alu=7 bus=1\nword 4 n 4\nlocked 0 4"
FLOOR = "bound 1\nclass s\nclass t u\nparting 0 1 a none\nknot 0 2\nknot 1 0\nknot 3 0"
READ = read_frame(FRAME)
TWENTY, TWENTY_ONE = "9" * 20, "1" + "0" * 20
# Words that are no names, and words that are no numbers.
NO_NAMES = ["", "to", "if", "tag", "all", "none", "A", "9a", "nine9nine", "a_b", "a+b", "a=1", "1", "~", "a-b", "aB"]
NO_NUMBERS = ["", "00", "01", "-1", "+1", TWENTY_ONE, "0" * 20, "a", "1a", "1.0", "1_0", "none", "0x1", "1e3", "~"]
NO_PAIRS = ["", "x", "x=", "=1", "x=0", "x=00", "x=01", "x=-1", "x=+1", "x=1=1", "x==1", "X=1", "to=1", "all=1",
            "none=1", "tag=1", "if=1", "x=y", "x=1,", "nine9nine=1", "x=" + TWENTY_ONE, "1=1", "x+y=1", "none"]
NO_ROWS = ["", "+", "a+", "+a", "a++b", "a+a", "a+b+a", "A", "all", "none+a", "a+none", "to", "a=1", "9", "a+to", "~"]


def store_of(text):
    return read_store(text, READ)


READERS = [(read_frame, FRAME), (read_program, PROGRAM), (store_of, STORE), (read_floor, FLOOR), (read_word, "n 4 a=1"),
           (read_row, "a+b")]


class ReaderChecks(Checks):
    def refused(self, read, text, line, word):
        self.assert_error(InvalidText, {"line": line, "word": word}, read, text)

    def all_refused(self, read, cases):
        for text, line, word in cases:
            with self.subTest(text=text):
                self.refused(read, text, line, word)


class AnyValueTest(unittest.TestCase, ReaderChecks):
    def test_what_is_no_string(self):
        own = [READ, store_of(STORE), Signals(), Word("n", 0, Signals()), State("s", Signals(), "s"), Rows(("a",), ()), 7]
        for read, text in READERS:
            for value in any_values() + own:
                if not isinstance(value, str):
                    self.refused(read, value, 0, 0)
            for value in ([text], (text,), {text: text}):
                self.refused(read, value, 0, 0)

    def test_strings(self):
        texts = [value for value in any_values() if isinstance(value, str)]
        for read, text in READERS[:4]:
            for value in texts + ["\n", " ", "\n\n", " " + text, "\n" + text, "#", "/", "width=3", "0"]:
                self.refused(read, value, 0, 0)
        for value in texts:
            if value not in ("a b", "a\n"):
                self.refused(read_word, value, 0, 0)
            if value not in ("a b", "a\n", "none"):
                self.refused(read_row, value, 0, 0)

    def test_newlines_and_spaces_at_the_end(self):
        for read, text in READERS:
            lines = text.split("\n")
            self.refused(read, text + "\n", len(lines), 0)
            self.refused(read, text + "\n\n", len(lines), 0)
            self.refused(read, text + " ", len(lines) - 1, len(lines[-1].split(" ")))
            self.refused(read, text + "\nx", len(lines), 0)
            for at in range(len(lines)):
                self.refused(read, "\n".join(lines[:at] + [""] + lines[at:]), at, 0)
                spaced = lines[:at] + [lines[at] + " "] + lines[at + 1:]
                self.refused(read, "\n".join(spaced), at, len(lines[at].split(" ")))
                words = lines[at].split(" ")
                for index in range(len(words)):
                    held = " ".join(words[:index] + [""] + words[index:])
                    self.refused(read, "\n".join(lines[:at] + [held] + lines[at + 1:]), at, index)

    def test_texts_that_end_too_early(self):
        for read, text, missing in [(read_frame, FRAME, [1, 2, 3, 4]), (read_floor, FLOOR, [1, 5, 6])]:
            lines = text.split("\n")
            for many in range(1, len(lines)):
                cut = "\n".join(lines[:many])
                if many in missing:
                    self.refused(read, cut, many, 0)
                else:
                    read(cut)
        for many in (1, 2):
            store_of("\n".join(STORE.split("\n")[:many]))


class FrameTest(unittest.TestCase, ReaderChecks):
    def with_line(self, at, line):
        lines = FRAME.split("\n")
        return "\n".join(lines[:at] + [line] + lines[at + 1:])

    def test_right(self):
        self.assertEqual(READ, Frame(3, Rows(("a", "b"), (), ("b",), ("a", "b")), ("alu", "bus"), Kind("n"),
                                     Masks("w", {"a": 1, "b": 6})))
        one = read_frame("width 1\nconditions x\nrows all\nfields x\nkind x")
        self.assertEqual(one, Frame(1, Rows(("x",), (), ("x",)), ("x",), Kind("x")))
        most = ("width 8\nconditions e d c b a\nrows e+d+c+b+a\nfields h g f e d c b a\n"
                + "\n".join("kind k" + str(at) + " e=1 a=255" for at in range(8)))
        self.assertEqual(frame_text(read_frame(most)), most)
        words = "width 2\nconditions width rows\nrows width+rows\nfields kind rows width\nkind kind rows=3"
        self.assertEqual(frame_text(read_frame(words)), words)

    def test_width(self):
        self.all_refused(read_frame, [(self.with_line(0, "width"), 0, 1), (self.with_line(0, "width 3 3"), 0, 2),
                                      (self.with_line(0, "with 3"), 0, 0), (self.with_line(0, "3"), 0, 0)])
        for word in NO_NUMBERS:
            self.refused(read_frame, self.with_line(0, "width " + word), 0, 1)

    def test_conditions(self):
        self.all_refused(read_frame, [
            (self.with_line(1, "conditions"), 1, 1), (self.with_line(1, "conditions a a"), 1, 2),
            (self.with_line(1, "conditions a b c b a"), 1, 4), (self.with_line(1, "condition a"), 1, 0),
            (self.with_line(1, "rows all"), 1, 0)])
        for word in NO_NAMES:
            self.refused(read_frame, self.with_line(1, "conditions a b " + word), 1, 3)
            self.refused(read_frame, self.with_line(1, "conditions " + word + " a b"), 1, 1)

    def test_rows(self):
        self.all_refused(read_frame, [
            (self.with_line(2, "rows"), 2, 1), (self.with_line(2, "rows all all"), 2, 2), (self.with_line(2, "rows all a"), 2, 2),
            (self.with_line(2, "rows none a b a+b"), 2, 4), (self.with_line(2, "rows none a+b b"), 2, 3),
            (self.with_line(2, "rows a none"), 2, 2), (self.with_line(2, "rows b a"), 2, 2), (self.with_line(2, "rows b b"), 2, 2),
            (self.with_line(2, "rows none none"), 2, 2), (self.with_line(2, "rows b+a"), 2, 1), (self.with_line(2, "rows c"), 2, 1),
            (self.with_line(2, "rows none a a+c"), 2, 3), (self.with_line(2, "rows none a all"), 2, 3),
            (self.with_line(2, "row a"), 2, 0), (self.with_line(2, "rows none a b a+b a"), 2, 4)])
        for word in NO_ROWS:
            self.refused(read_frame, self.with_line(2, "rows none " + word), 2, 2)
        small = "width 1\nconditions a\nrows {}\nfields x\nkind n"
        self.all_refused(read_frame, [(small.format("none a"), 2, 2), (small.format("a none"), 2, 2)])
        for told in ["none", "a", "all"]:
            self.assertEqual(frame_text(read_frame(small.format(told))), small.format(told))
        for told in ["none a b", "a b a+b", "none a a+b", "none b a+b", "a+b", "b a+b"]:
            self.assertEqual(frame_text(read_frame(self.with_line(2, "rows " + told))), self.with_line(2, "rows " + told))

    def test_fields(self):
        self.all_refused(read_frame, [
            (self.with_line(3, "fields"), 3, 1), (self.with_line(3, "fields x x"), 3, 2), (self.with_line(3, "kind n"), 3, 0),
            (self.with_line(3, "fields x y z y x"), 3, 4), (self.with_line(3, "field x"), 3, 0)])
        for word in NO_NAMES:
            self.refused(read_frame, self.with_line(3, "fields x " + word + " y"), 3, 2)
        self.assertEqual(read_frame(self.with_line(3, "fields z y x")).fields, ("z", "y", "x"))

    def test_kinds(self):
        self.all_refused(read_frame, [
            ("\n".join(FRAME.split("\n")[:4]), 4, 0), (self.with_line(4, "kind"), 4, 1), (self.with_line(4, "kind w"), 5, 1),
            (self.with_line(4, "kinds n"), 4, 0), (self.with_line(5, "kind n"), 5, 1), (self.with_line(5, "word n"), 5, 0),
            (self.with_line(5, "kind w a=0"), 5, 2), (self.with_line(5, "kind w a=1 b=0"), 5, 3),
            (self.with_line(5, "kind w b=1 a=1"), 5, 3), (self.with_line(5, "kind w a=1 a=2"), 5, 3),
            (self.with_line(5, "kind w c=1"), 5, 2), (self.with_line(5, "kind w a=1 c=1"), 5, 3),
            (self.with_line(5, "kind w a+b=1"), 5, 2), (self.with_line(5, "kind w 1"), 5, 2)])
        for word in NO_NAMES:
            self.refused(read_frame, self.with_line(5, "kind " + word), 5, 1)
        for word in NO_PAIRS:
            self.refused(read_frame, self.with_line(5, "kind w " + word.replace("x", "a") + " b=1"), 5, 2)
            self.refused(read_frame, self.with_line(5, "kind w a=1 " + word.replace("x", "b")), 5, 3)

    def test_errors_of_the_constructors(self):
        six = self.with_line(1, "conditions a b c d e f")
        for text in [six, six.replace("rows none b a+b", "rows all"), six.replace("width 3", "width 0")]:
            self.assert_error(InvalidRows, {"part": "conditions"}, read_frame, text)
        many = "conditions " + " ".join("c" + str(at) for at in range(1500))
        for rows in ("rows all", "rows none c0 c1499", "rows " + "+".join(many.split(" ")[1:])):
            text = self.with_line(2, rows).replace("conditions a b", many).replace("kind w a=1 b=6", "kind w c0=999")
            self.assert_error(InvalidRows, {"part": "conditions"}, read_frame, text)
        for number in ("256", TWENTY, "1000"):
            wrong = self.with_line(5, "kind w b=" + number)
            for text in [wrong, wrong.replace("width 3", "width 0"), wrong + "\nkind x a=8"]:
                self.assert_error(InvalidKind, {"part": "masks"}, read_frame, text)
        for width in ("0", "9", TWENTY):
            self.assert_error(InvalidFrame, {"part": "width"}, read_frame, self.with_line(0, "width " + width))
        nine = " ".join("f" + str(at) for at in range(9))
        self.assert_error(InvalidFrame, {"part": "fields"}, read_frame, self.with_line(3, "fields " + nine))
        self.assert_error(InvalidFrame, {"part": "kinds"}, read_frame, self.with_line(0, "width 2"))
        self.assert_error(InvalidFrame, {"part": "kinds"}, read_frame, self.with_line(5, "kind w a=1 b=8"))
        kinds = "".join("\nkind k" + str(at) for at in range(7))
        self.assertEqual(len(read_frame(self.with_line(5, "kind w") + kinds[:kinds.rindex("\n")])), 8)
        self.assert_error(InvalidFrame, {"part": "kinds"}, read_frame, FRAME + kinds)
        # The text is read to its end first.
        self.refused(read_frame, self.with_line(0, "width 9") + "\nkind n", 6, 1)
        self.refused(read_frame, self.with_line(5, "kind w b=256") + "\nkind", 6, 1)
        self.refused(read_frame, six + "\n", 6, 0)


class ProgramTest(unittest.TestCase, ReaderChecks):
    def test_right(self):
        program = read_program(PROGRAM)
        self.assertEqual([program["s"], program["u"]], [
            State("s", Signals(x=1, y=2), "s", "u", "s", "u", tests=("a", "b"), tag="t"), State("u", Signals(), "s")])
        words = "state state state=1 if state to state state tag state"
        self.assertEqual(program_text(read_program(words)), words)
        five = "state s if e d c b a to" + " s" * 32
        self.assertEqual(program_text(read_program(five)), five)

    def test_examples_of_the_document(self):
        self.all_refused(read_program, [("state s alu=1 if a b to s s s", 0, 10), ("state s to s tag u v", 0, 6),
                                        ("state s if a to s tag u", 0, 6)])
        self.assert_error(InvalidNumber, {"value": 1000000001}, read_program, "state s alu=1000000001 to s")

    def test_names_and_first_words(self):
        self.all_refused(read_program, [
            ("", 0, 0), ("state", 0, 1), ("states s to s", 0, 0), ("s to s", 0, 0), ("state s to s\nstate s to s", 1, 1),
            ("state s to s\nstate u to s\nstate s", 2, 1), ("state s to s\nu to s", 1, 0), ("state s to s\nstate", 1, 1)])
        for word in NO_NAMES:
            self.refused(read_program, "state " + word + " to s", 0, 1)

    def test_signals(self):
        self.all_refused(read_program, [
            ("state s", 0, 2), ("state s x=1", 0, 3), ("state s x=1 x=1 to s", 0, 3), ("state s y=1 x=1 to s", 0, 3),
            ("state s x=1 z=1 y=1 to s", 0, 4), ("state s x=0 to s", 0, 2), ("state s x=1 y=0 to s", 0, 3),
            ("state s if a x=1 to s s", 0, 4), ("state s to s x=1", 0, 4), ("state s to s tag t x=1", 0, 6), ("state s s", 0, 2)])
        for word in NO_PAIRS:
            self.refused(read_program, "state s a=1 " + word + " to s", 0, 3)
        for word in ("tag", "all", "state", "none"):
            self.refused(read_program, "state s " + word + " to s", 0, 2)

    def test_tests(self):
        self.all_refused(read_program, [
            ("state s if", 0, 3), ("state s if to s", 0, 3), ("state s if a", 0, 4), ("state s if a a to s s s s", 0, 4),
            ("state s if a b a to s s", 0, 5), ("state s if a b c d e f to", 0, 8), ("state s if a b c d e e", 0, 8),
            ("state s if a b c d e", 0, 8), ("state s if a if b to s s s s", 0, 4), ("state s if a tag t", 0, 4)])
        for word in NO_NAMES:
            if word != "to":
                self.refused(read_program, "state s if a " + word + " to s s s s", 0, 4)
                self.refused(read_program, "state s if " + word + " to s s", 0, 3)

    def test_targets(self):
        self.all_refused(read_program, [
            ("state s to", 0, 3), ("state s to s s", 0, 4), ("state s if a to s", 0, 6), ("state s if a to s s s", 0, 7),
            ("state s if a b to s s s", 0, 9), ("state s if a b to s s s s s", 0, 10), ("state s to to", 0, 3),
            ("state s if a b c d e to" + " s" * 31, 0, 40), ("state s if a b c d e to" + " s" * 33, 0, 41),
            ("state s to tag t", 0, 3), ("state s if a to s\nstate u to s", 0, 6)])
        for word in NO_NAMES:
            self.refused(read_program, "state s if a to s " + word, 0, 6)

    def test_tags(self):
        self.all_refused(read_program, [
            ("state s to s tag", 0, 5), ("state s to s tag t t", 0, 6), ("state s to s tag t tag t", 0, 6),
            ("state s to s t", 0, 4), ("state s tag t to s", 0, 2), ("state s to s tags t", 0, 4)])
        for word in NO_NAMES:
            self.refused(read_program, "state s to s tag " + word, 0, 5)

    def test_errors_of_the_constructors(self):
        for number in (10 ** 9 + 1, 10 ** 20 - 1):
            self.assert_error(InvalidNumber, {"value": number}, read_program, f"state s x={number} y={TWENTY} to u")
        first = f"state s to u\nstate t x={10 ** 9 + 2} to t\nstate u x={TWENTY} to z"
        self.assert_error(InvalidNumber, {"value": 10 ** 9 + 2}, read_program, first)
        self.assertEqual(read_program("state s x=1000000000 to s")["s"].signals["x"], 10 ** 9)
        self.assert_error(NoState, {"name": "u"}, read_program, "state s to s\nstate t if a to s u\nstate v to z")
        many = ["state s" + str(at) + " to s0" for at in range(25)]
        self.assertEqual(len(read_program("\n".join(many[:24]))), 24)
        self.assert_error(TooMany, {"part": "states"}, read_program, "\n".join(many[:24] + ["state z to y"]))
        self.refused(read_program, "\n".join(many) + "\nstate s3 to s", 25, 1)
        self.refused(read_program, "state s x=1000000001 to u\nstate t", 1, 2)


class StoreTest(unittest.TestCase, ReaderChecks):
    def test_right(self):
        store = store_of(STORE)
        self.assertEqual(store, Store(READ, {1: Word.of("w", 2, alu=7, bus=1), 4: Word.of("n", 4)}, locked=(0, 4)))
        self.assertEqual(store_of("blank"), Store(READ))
        self.assertEqual(store_of("locked 7"), Store(READ, locked=(7,)))
        self.assertEqual(store_of("word 0 n 0"), Store(READ, {0: Word.of("n", 0)}))
        self.assertIs(store.frame, READ)

    def test_first_words(self):
        self.all_refused(store_of, [
            ("", 0, 0), ("words", 0, 0), ("0 n 0", 0, 0), ("blank 0", 0, 1), ("blank\nblank", 1, 0), ("blank\nlocked 0", 1, 0),
            ("blank\nword 0 n 0", 1, 0), ("word 0 n 0\nblank", 1, 0), ("locked 0\nlocked 1", 1, 0), ("blank ", 0, 1),
            ("locked 0\nword 1 n 0", 1, 0), ("locked 0\nblank", 1, 0), ("word 0 n 0\nlocked 0\nword 1 n 1", 2, 0), ("none", 0, 0)])

    def test_words(self):
        self.all_refused(store_of, [
            ("word", 0, 1), ("word 1", 0, 2), ("word 1 n", 0, 3), ("word 1 n 1\nword 1 n 1", 1, 1), ("word 1 n 1\nword 0 n 1", 1, 1),
            ("word 1 n 1\nword 5 n 1\nword 3 n 1", 2, 1), ("word 1 n 1 bus=1 alu=1", 0, 5), ("word 1 n 1 bus=1 bus=1", 0, 5),
            ("word 1 n 1 bus=0", 0, 4), ("word 1 n 1 1", 0, 4), ("word 1 n 1 word 2 n 1", 0, 4), ("word 1 1 n", 0, 2),
            ("word n 1 1", 0, 1)])
        for word in NO_NUMBERS:
            self.refused(store_of, "word " + word + " n 0", 0, 1)
            self.refused(store_of, "word 0 n " + word, 0, 3)
        for word in NO_NAMES:
            self.refused(store_of, "word 0 " + word + " 0", 0, 2)
        for word in NO_PAIRS:
            self.refused(store_of, "word 0 n 0 a=1 " + word, 0, 5)

    def test_locked(self):
        self.all_refused(store_of, [
            ("locked", 0, 1), ("locked 0 0", 0, 2), ("locked 1 0", 0, 2), ("locked 0 5 3", 0, 3), ("locked all", 0, 1),
            ("word 0 n 0\nlocked", 1, 1), ("locked 0 none", 0, 2)])
        for word in NO_NUMBERS:
            self.refused(store_of, "locked 0 " + word, 0, 2)

    def test_errors_of_the_constructors(self):
        wrong = [
            ("word 0 n 0 alu=1000000001", InvalidNumber, {"value": 10 ** 9 + 1}),
            ("word 9 n 256 alu=1000000001\nword 10 n 256", InvalidNumber, {"value": 10 ** 9 + 1}),
            ("word 9 n 256\nword 10 n 0 alu=1000000001", InvalidWord, {"part": "base"}),
            ("word 9 z 0\nword 10 n 256", InvalidWord, {"part": "base"}),
            ("word 9 z 0\nword 10 z 0", InvalidAddress, {"address": 9}), ("word 8 n 0", InvalidAddress, {"address": 8}),
            ("word 7 z 0\nword 8 n 0", InvalidWord, {"part": "kind"}), ("word 7 n 8 z=1", InvalidWord, {"part": "base"}),
            ("word 7 n 7 z=1", InvalidWord, {"part": "signals"}), ("word 7 n 7 z=1\nlocked 8", InvalidWord, {"part": "signals"}),
            ("locked 7 8 9", InvalidAddress, {"address": 8}), ("locked " + TWENTY, InvalidAddress, {"address": 10 ** 20 - 1}),
            ("word " + TWENTY + " n 0", InvalidAddress, {"address": 10 ** 20 - 1}),
            ("word 0 n " + TWENTY, InvalidWord, {"part": "base"})]
        for text, error, parts in wrong:
            self.assert_error(error, parts, store_of, text)
        self.refused(store_of, "word 9 n 256\nword 9 n 0", 1, 1)
        self.refused(store_of, "word 9 n 256\nlocked 1 1", 1, 2)


class FloorTest(unittest.TestCase, ReaderChecks):
    def test_right(self):
        floor = (1, (("s",), ("t", "u")), ((0, 1, (("a",), ())),), (0, (1,), (3,)))
        self.assertEqual(repr(read_floor(FLOOR)), repr(floor))
        right = [
            ("bound none\nclass s", (None, (("s",),), (), ())),
            ("bound 0\nclass s s\nclass s\nknot 5 0", (0, (("s", "s"), ("s",)), (), (5,))),
            ("bound 7\nclass b a\nparting 3 1\nparting 3 1 b+a none\nparting 0 0 a", (
                7, (("b", "a"),), ((3, 1, ()), (3, 1, (("b", "a"), ())), (0, 0, (("a",),))), ())),
            ("bound " + TWENTY + "\nclass s\nparting " + TWENTY + " 0", (10 ** 20 - 1, (("s",),), ((10 ** 20 - 1, 0, ()),), ())),
            ("bound 1\nclass s\nknot 9 2\nknot 1 1\nknot 9 0\nknot 1 0", (1, (("s",),), (), (9, (1, (9,)), (1,))))]
        for text, wanted in right:
            self.assertEqual(repr(read_floor(text)), repr(wanted))
            self.assertEqual(floor_text(read_floor(text)), text)

    def test_bounds(self):
        self.all_refused(read_floor, [
            ("", 0, 0), ("bound", 0, 1), ("bound 1 2\nclass s", 0, 2), ("bound none none\nclass s", 0, 2), ("bound 1", 1, 0),
            ("bound none", 1, 0), ("bounds 1\nclass s", 0, 0), ("bound 1\nbound 1", 1, 0), ("bound none 1", 0, 2)])
        for word in NO_NUMBERS:
            if word != "none":
                self.refused(read_floor, "bound " + word + "\nclass s", 0, 1)

    def test_classes(self):
        self.all_refused(read_floor, [
            ("bound 1\nclass", 1, 1), ("bound 1\nparting 0 1", 1, 0), ("bound 1\nknot 0 0", 1, 0), ("bound 1\ns", 1, 0),
            ("bound 1\nclass s\nparting 0 1\nclass s", 3, 0), ("bound 1\nclass s\nknot 0 0\nclass s", 3, 0),
            ("bound 1\nclass s\nstate s", 2, 0)])
        for word in NO_NAMES:
            self.refused(read_floor, "bound 1\nclass s " + word, 1, 2)

    def test_partings(self):
        self.all_refused(read_floor, [
            ("bound 1\nclass s\nparting", 2, 1), ("bound 1\nclass s\nparting 0", 2, 2), ("bound 1\nclass s\nparting 0 a", 2, 2),
            ("bound 1\nclass s\nknot 0 0\nparting 0 1", 3, 0), ("bound 1\nclass s\nparting 0 1 all", 2, 3),
            ("bound 1\nclass s\nparting 0 1 a 1", 2, 4), ("bound 1\nclass s\nknot 0 1\nparting 0 1", 3, 0)])
        for word in NO_NUMBERS:
            self.refused(read_floor, "bound 1\nclass s\nparting " + word + " 1", 2, 1)
            self.refused(read_floor, "bound 1\nclass s\nparting 0 " + word, 2, 2)
        for word in NO_ROWS:
            self.refused(read_floor, "bound 1\nclass s\nparting 0 1 none " + word + " a", 2, 4)

    def test_knots(self):
        head = "bound 1\nclass s\n"
        self.all_refused(read_floor, [
            (head + "knot", 2, 1), (head + "knot 0", 2, 2), (head + "knot 0 0 0", 2, 3), (head + "knot 0 1", 3, 0),
            (head + "knot 0 0\nknot 1 0", 3, 0), (head + "knot 0 1\nknot 1 0\nknot 2 0", 4, 0), (head + "knots 0 0", 2, 0),
            (head + "knot 0 2\nknot 1 0", 4, 0), (head + "knot 0 2\nknot 1 1\nknot 2 0", 5, 0), (head + "knot 0 0\n", 3, 0),
            (head + "knot 0 " + TWENTY + "\nknot 1 0", 4, 0), (head + "knot 0 1\nclass s", 3, 0), (head + "knot 0 1\n0 0", 3, 0)])
        for word in NO_NUMBERS:
            self.refused(read_floor, head + "knot " + word + " 0", 2, 1)
            self.refused(read_floor, head + "knot 0 " + word, 2, 2)

    def test_depths(self):
        head = "bound 1\nclass s"
        for depth in (63, 64):
            text = head + "\nknot 1 1" * (depth - 1) + "\nknot 2 0"
            self.assertEqual(floor_text(read_floor(text)), text)
            self.refused(read_floor, text + "\nknot 2 0", 2 + depth, 0)
        deep = head + "\nknot 1 1" * 64
        self.refused(read_floor, deep, 66, 0)
        self.refused(read_floor, deep + "\nknot 2 0", 66, 0)
        self.refused(read_floor, deep + "\nknot 2 1" * 600, 66, 0)
        wide = head + "\nknot 1 1" * 62 + "\nknot 1 2\nknot 5 0\nknot 6 0"
        self.assertEqual(floor_text(read_floor(wide)), wide)
        self.refused(read_floor, head + "\nknot 1 1" * 62 + "\nknot 1 2\nknot 5 1\nknot 6 0", 66, 0)


class WordAndRowTest(unittest.TestCase, ReaderChecks):
    def test_words(self):
        self.assertEqual(read_word("n 4"), Word.of("n", 4))
        self.assertEqual(read_word("word 255 a=1 self=1000000000"), Word("word", 255, Signals.of((("self", 10 ** 9), ("a", 1)))))
        self.all_refused(read_word, [
            ("", 0, 0), ("n", 0, 1), ("n 1 1", 0, 2), ("n 1\n", 1, 0), ("n 1\nn 1", 1, 0), ("n\n1", 0, 1), ("n 1 b=1 a=1", 0, 3),
            ("n 1 a=1 a=1", 0, 3), ("n 1 none", 0, 2), ("word 1 n 1", 0, 2)])
        for word in NO_NAMES:
            self.refused(read_word, word + " 4", 0, 0)
        for word in NO_NUMBERS:
            self.refused(read_word, "n " + word, 0, 1)
        for word in NO_PAIRS:
            self.refused(read_word, "n 4 " + word, 0, 2)
        self.assert_error(InvalidWord, {"part": "base"}, read_word, "n 256")
        self.assert_error(InvalidNumber, {"value": 10 ** 9 + 1}, read_word, "n 256 a=1000000001")

    def test_rows(self):
        many = "+".join("a" + str(at) for at in range(100))
        for text, row in [("none", ()), ("a", ("a",)), ("b+a", ("b", "a")), (many, tuple(many.split("+"))), ("row", ("row",))]:
            self.assertEqual(read_row(text), row)
        for word in NO_ROWS:
            self.refused(read_row, word, 0, 0)
            self.refused(read_row, "a " + word, 0, 1)
        self.all_refused(read_row, [("a\nb", 1, 0), ("none none", 0, 1), ("none\n", 1, 0), ("a\n", 1, 0)])


def error_at(read, text):
    """The place at which a text is refused; None if it is read, or if only a constructor refuses it."""
    try:
        read(text)
    except InvalidText as error:
        return error.line, error.word
    except OrError:
        pass
    return None


def joined(lines):
    return "\n".join(" ".join(words) for words in lines)


def mutants(rng, text, pool):
    """Texts with a word or a line left out, put in, twice, exchanged, or another one."""
    lines = [line.split(" ") for line in text.split("\n")]
    for _ in range(14):
        other = [list(words) for words in lines]
        at = rng.randrange(len(other))
        words = other[at]
        index = rng.randrange(len(words))
        form = rng.randrange(8)
        if form == 0:
            del words[index]
        elif form == 1:
            words.insert(rng.randrange(len(words) + 1), rng.choice(pool))
        elif form == 2:
            words.insert(index, words[index])
        elif form == 3:
            beside = rng.randrange(len(words))
            words[index], words[beside] = words[beside], words[index]
        elif form == 4:
            words[index] = rng.choice(pool)
        elif form == 5:
            del other[at]
        elif form == 6:
            other.insert(rng.randrange(len(other) + 1), list(words))
        else:
            beside = rng.randrange(len(other))
            other[at], other[beside] = other[beside], other[at]
        yield joined(other)


class PlacesTest(unittest.TestCase):
    """The place that is told is the first word that cannot stand: what is ahead of it can go on, and it cannot."""

    POOL = ["", "0", "1", "2", "3", "7", "a", "b", "c", "n", "s0", "s1", "x", "x=1", "y=2", "a=1", "b=3", "x=0", "none", "all",
            "a+b", "b+a", "if", "to", "tag", "width", "conditions", "rows", "fields", "kind", "state", "word", "locked", "blank",
            "bound", "class", "parting", "knot", "fresh1", "fresh2=9", "15", "01", "zz=1"]

    def assert_place(self, rng, read, text):
        place = error_at(read, text)
        if place is None:
            return False
        lines = [line.split(" ") for line in text.split("\n")]
        line, word = place
        ahead = lines[:line]
        if line < len(lines):
            held, behind = lines[line][:word], lines[line][word:]
            if behind:
                # Whatever stands behind that word, it cannot stand.
                for _ in range(3):
                    tail = [rng.choice(self.POOL) for _ in range(rng.randrange(3))]
                    more = [[rng.choice(self.POOL)] for _ in range(rng.randrange(3))]
                    self.assertEqual(error_at(read, joined(ahead + [held + behind[:1] + tail] + more)), place, text)
            if word:
                going = [error_at(read, joined(ahead + [held + [other]])) for other in self.POOL + self.names(text)]
                going.append(error_at(read, joined(ahead + [held])))
                going.append(error_at(read, joined(ahead + [held, ["kind"]])))
                self.assertTrue(any(other is None or other > place for other in going), (text, place))
        if line < len(lines) and not word or line == len(lines):
            starts = [error_at(read, joined(ahead + [[other]])) for other in self.POOL]
            starts.append(error_at(read, joined(ahead)) if ahead else place)
            self.assertTrue(any(other is None or other > place for other in starts), (text, place))
        return True

    def names(self, text):
        """Names, numbers, pairs and rows that may go on where the pool does not."""
        words = [word for line in text.split("\n") for word in line.split(" ")]
        return words + ["zzz", "zzz=1", "999", "a+zzz"]

    def go_through(self, read, write, texts, rng):
        read_many = refused = 0
        for text in texts:
            for other in mutants(rng, text, self.POOL):
                if self.assert_place(rng, read, other):
                    refused += 1
                    continue
                try:
                    value = read(other)
                except OrError:
                    continue
                self.assertEqual(write(value), other)
                read_many += 1
        self.assertGreater(min(read_many, refused), 30)

    def test_frames(self):
        rng = maker(1)
        self.go_through(read_frame, frame_text, [frame_text(some_frame(rng, 3)) for _ in range(60)], rng)

    def test_programs(self):
        rng = maker(2)
        texts = [program_text(some_program(rng, rng.randint(1, 4), tags=(None, "t"))) for _ in range(80)]
        self.go_through(read_program, program_text, texts, rng)

    def test_stores(self):
        rng = maker(3)
        frame = some_frame(rng, 3)
        texts = [store_text(some_store(rng, frame, full=rng.choice([0, 0.3, 0.8]), locked=0.3)) for _ in range(80)]
        self.go_through(lambda text: read_store(text, frame), store_text, texts, rng)

    def test_floors(self):
        rng = maker(4)
        texts = []
        while len(texts) < 50:
            store, program, entries = some_search(rng, (2, 3), 3)
            floor = least(store, program, entries, limit=4000).floor
            if floor is not None and len(floor_text(floor)) < 600:
                texts.append(floor_text(floor))
        self.go_through(read_floor, floor_text, texts, rng)

    def test_words(self):
        rng = maker(5)
        store = some_store(rng, some_frame(rng, 5))
        self.go_through(read_word, word_text, [word_text(word) for at, word in store.words()] * 10, rng)
