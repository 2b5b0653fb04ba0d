"""The examples of the document as they stand there, one behind another, with the names of those ahead of them."""

import ast
import importlib
import pathlib
import unittest

FOLDER = pathlib.Path(__file__).parent
MODULES = ["classes", "desk", "equivalence", "errors", "floors", "frames", "kinds", "knots", "landings", "machines",
           "names", "needs", "patches", "programs", "reader", "rows", "runners", "search", "signals", "stores", "texts"]


def told_error(error):
    """How the document writes an error."""
    parts = ", ".join(repr(part) for part in vars(error).values())
    told = f"{error.__class__.__name__}({parts})"
    if error.__cause__ is not None:
        told += " from " + told_error(error.__cause__)
    return told


def outcome(line, names):
    """What a line comes to: the repr of its value, its error, or nothing."""
    try:
        if isinstance(ast.parse(line).body[0], ast.Expr):
            value = eval(line, names)
            return "" if value is None else repr(value)
        exec(line, names)
        return ""
    except ValueError as error:
        return "raises " + told_error(error)


def read_examples():
    """The examples as tuples of a heading, a line and what it comes to; a line without an outcome has none."""
    found = []
    heading = ""
    for line in (FOLDER / "examples.txt").read_text().split("\n"):
        if line.startswith("## "):
            heading = line[3:]
        elif line.startswith(">>> "):
            found.append([heading, line[4:], ""])
        elif line:
            found[-1][2] += line
    return found


class ExamplesTest(unittest.TestCase):
    def test_as_they_stand_in_the_document(self):
        names = {}
        for module in MODULES:
            loaded = vars(importlib.import_module("orplaces." + module))
            names.update({name: loaded[name] for name in loaded if not name.startswith("_")})
        examples = read_examples()
        self.assertGreater(len(examples), 100)
        for heading, line, wanted in examples:
            with self.subTest(heading=heading, line=line):
                self.assertEqual(outcome(line, names), wanted)
