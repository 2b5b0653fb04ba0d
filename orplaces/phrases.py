"""The lines that a desk is told, and which words they have."""

from orplaces.errors import InvalidText
from orplaces.integers import is_integer
from orplaces.scans import Scan, is_number, take_name, take_number, take_numbers, take_pairs, take_rows
from orplaces.search import MOST_LIMIT, USUAL_LIMIT

TEXTS = ("frame", "store", "program")
SHOWN = ("frame", "store", "program", "entries")
FORMS = {
    "show frame": (),
    "show store": (),
    "show program": (),
    "show entries": (),
    "entry": ("number", "name"),
    "word": ("number", "name", "number", "signals"),
    "erase": ("number",),
    "lock": ("numbers",),
    "path": ("number", "rows"),
    "alike": ("number", "number"),
    "carries": (),
    "classes": (),
    "least": ("limit",),
    "floor": (),
    "must": (),
    "make": (),
    "try": ("number", "name", "number", "signals"),
    "apart": ("name", "number", "name"),
}


def read_phrase(line, index):
    """The name of what any value as a line wants done, and a list of what it tells; index is that of the line."""
    if not isinstance(line, str):
        raise InvalidText(index, 0)
    word, space, text = line.partition(" ")
    if word not in TEXTS:
        return read_words(Scan([line.split(" ")], index))
    if not space:
        raise InvalidText(index, 1)
    return word, [text.replace(" / ", "\n")]


def read_words(scan):
    """The name and the list of what is told, of a line that has no text."""
    name = scan.take(scan.ahead() == "show" or scan.ahead() in FORMS)
    if name == "show":
        name = "show " + scan.take(scan.ahead() in SHOWN)
    told = [take_form(scan, form) for form in FORMS[name]]
    scan.end_line()
    return name, told


def take_form(scan, form):
    """Takes one word or more of this form."""
    if form == "number":
        return take_number(scan)
    if form == "numbers":
        return take_numbers(scan)
    if form == "name":
        return take_name(scan)
    if form == "rows":
        return take_rows(scan)
    if form == "signals":
        return take_pairs(scan)
    return take_limit(scan)


def take_limit(scan):
    """Takes a limit; the usual one at the end of the line."""
    ahead = scan.ahead()
    if ahead is None:
        return USUAL_LIMIT
    return int(scan.take(is_number(ahead) and is_integer(int(ahead), 1, MOST_LIMIT)))
