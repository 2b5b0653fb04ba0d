"""What the tests share: values of every kind, and a check of errors with their parts."""

from orplaces.errors import OrError, NoStates


class Loud:
    """A value that must not be looked at."""

    def __eq__(self, other):
        raise AssertionError("compared")

    def __repr__(self):
        raise AssertionError("shown")

    def __bool__(self):
        raise AssertionError("tested")

    def __len__(self):
        raise AssertionError("measured")

    __hash__ = None


def nested(depth, value=()):
    for _ in range(depth):
        value = (value,)
    return value


def any_values():
    """Values of every kind of "any value", none of which is a name, a row or a number from 0 to 255."""
    return [
        None, True, False, -1, 10 ** 60 - 1, -(10 ** 60 - 1),
        "", "A", "9a", "a_b", "a b", "nine9signs", "to", "if", "tag", "all", "none", "a" * 12000, "a\n", "~",
        (1,), (None,), (True,), ("a", "a"), ("a", ("b",)), nested(80),
        [], ["a"], [[]], ["a"] * 60000, {}, {"a": 1}, {None: []}, {1: {2: {}}}, tuple(["a"] * 60000),
        NoStates(), OrError(),
    ]


class Checks:
    """Mixed into test cases."""

    def assert_error(self, error, parts, deed, *args, **named):
        """deed raises exactly this error, with the very parts in its attributes, by their names."""
        try:
            deed(*args, **named)
        except OrError as e:
            self.assertIs(e.__class__, error)
            self.assertEqual(vars(e).keys(), parts.keys())
            for part in parts:
                told = getattr(e, part)
                if told is not parts[part]:
                    self.assertEqual((told.__class__, told), (parts[part].__class__, parts[part]))
            return e
        self.fail(f"{error.__name__} was not raised")
