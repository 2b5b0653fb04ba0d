"""The written forms of rows, signals, words, frames, programs, stores and floors."""


def row_text(row):
    """The names of the conditions of a row."""
    return "+".join(row) if row else "none"


def signals_text(signals):
    """The fields that are told, the empty string if there are none."""
    return str(signals) if signals else ""


def word_text(word):
    """The kind, the base and the signals of a word."""
    return str(word)


def frame_text(frame):
    """A line each for the width, the conditions, the rows and the fields, and one for each kind."""
    conditions = frame.rows.conditions
    lines = [
        f"width {frame.width}",
        spaced(["conditions", *conditions]),
        spaced(["rows", *rows_words(frame.rows)]),
        spaced(["fields", *frame.fields]),
    ]
    lines.extend([kind_text(kind, conditions) for kind in frame.kinds])
    return "\n".join(lines)


def rows_words(rows):
    """The words that tell which rows are possible."""
    if len(rows) == 1 << len(rows.conditions):
        return ["all"]
    return row_words(rows.possible)


def row_words(rows):
    """The written forms of rows."""
    return [row_text(row) for row in rows]


def kind_text(kind, conditions):
    """The line of a kind."""
    masks = [(condition, kind.mask((condition,))) for condition in conditions]
    return spaced(["kind", kind.name, *[f"{condition}={mask}" for condition, mask in masks if mask != 0]])


def program_text(program):
    """A line for each state."""
    return "\n".join([state_text(program[name]) for name in program.names])


def state_text(state):
    """The line of a state."""
    words = ["state", state.name]
    if state.signals:
        words.append(signals_text(state.signals))
    if state.tests:
        words.extend(["if", *state.tests])
    words.extend(["to", *state.targets])
    if state.tag is not None:
        words.extend(["tag", state.tag])
    return spaced(words)


def store_text(store):
    """A line for each word, and one for the locked addresses, if there are any."""
    lines = [f"word {address} {word_text(word)}" for address, word in store.words()]
    if store.locked:
        lines.append(spaced(["locked", *[str(address) for address in store.locked]]))
    return "\n".join(lines or ["blank"])


def floor_text(floor):
    """A line each for the bound, the classes, the partings and the knots of the tree."""
    bound, classes, partings, tree = floor
    lines = ["bound none" if bound is None else f"bound {bound}"]
    lines.extend([spaced(["class", *states]) for states in classes])
    lines.extend([spaced([f"parting {lesser} {number}", *row_words(rows)]) for lesser, number, rows in partings])
    lines.extend(knot_lines(tree))
    return "\n".join(lines)


def knot_lines(tree):
    """A line for each knot of a tree, a knot ahead of those below it."""
    if not tree:
        return []
    lines = [f"knot {tree[0]} {len(tree) - 1}"]
    for below in tree[1:]:
        lines.extend(knot_lines(below))
    return lines


def spaced(words):
    """Words with single spaces between them."""
    return " ".join(words)
