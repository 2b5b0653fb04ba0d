"""Names of conditions, fields, kinds, states and tags."""

MOST_SIGNS = 8
LETTERS = "abcdefghijklmnopqrstuvwxyz"
SIGNS = "abcdefghijklmnopqrstuvwxyz0123456789"
RESERVED = ("to", "if", "tag", "all", "none")


def is_name(value):
    """Whether any value is a name."""
    if not isinstance(value, str) or not 1 <= len(value) <= MOST_SIGNS:
        return False
    if value[0] not in LETTERS or value in RESERVED:
        return False
    return all([sign in SIGNS for sign in value])


def are_names(values, most):
    """Whether a list or tuple of any values has 1 to most of them, different names all."""
    if not 1 <= len(values) <= most:
        return False
    if not all([is_name(value) for value in values]):
        return False
    return len(set(values)) == len(values)
