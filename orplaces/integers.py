"""Integers as the document counts them."""


def is_integer(value, least, most):
    """Whether any value is an integer from least to most; True and False are none."""
    return isinstance(value, int) and not isinstance(value, bool) and least <= value <= most


def is_count(value):
    """Whether any value is an integer from 0 on; True and False are none."""
    return isinstance(value, int) and not isinstance(value, bool) and value >= 0
