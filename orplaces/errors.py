"""The errors of the package.

Each error keeps what it is raised for and looks at none of it: that may be any value, also one
that cannot be compared or shown.
"""


class OrError(ValueError):
    """The base class of all errors below."""


class InvalidName(OrError):
    def __init__(self, value):
        self.value = value


class InvalidNumber(OrError):
    def __init__(self, value):
        self.value = value


class InvalidRows(OrError):
    def __init__(self, part):
        self.part = part


class InvalidRow(OrError):
    def __init__(self, value):
        self.value = value


class InvalidKind(OrError):
    def __init__(self, part):
        self.part = part


class InvalidFrame(OrError):
    def __init__(self, part):
        self.part = part


class InvalidWord(OrError):
    def __init__(self, part):
        self.part = part


class InvalidAddress(OrError):
    def __init__(self, address):
        self.address = address


class InvalidText(OrError):
    def __init__(self, line, word):
        self.line = line
        self.word = word


class FieldClash(OrError):
    def __init__(self, field, one, other):
        self.field = field
        self.one = one
        self.other = other


class Clash(OrError):
    def __init__(self, lesser, name):
        self.lesser = lesser
        self.name = name


class StateClash(OrError):
    def __init__(self, name):
        self.name = name


class Locked(OrError):
    def __init__(self, address):
        self.address = address


class Blank(OrError):
    def __init__(self, address):
        self.address = address


class NotPossible(OrError):
    def __init__(self, row):
        self.row = row


class NoCondition(OrError):
    def __init__(self, name):
        self.name = name


class NoField(OrError):
    def __init__(self, name):
        self.name = name


class NoKind(OrError):
    def __init__(self, name):
        self.name = name


class NoState(OrError):
    def __init__(self, name):
        self.name = name


class NoTarget(OrError):
    def __init__(self, value):
        self.value = value


class NoClass(OrError):
    def __init__(self, value):
        self.value = value


class NoLanding(OrError):
    def __init__(self, value):
        self.value = value


class NoCase(OrError):
    def __init__(self, case):
        self.case = case


class NoStates(OrError):
    def __init__(self):
        pass


class NoEntries(OrError):
    def __init__(self):
        pass


class NotEnd(OrError):
    def __init__(self):
        pass


class NotCarried(OrError):
    def __init__(self):
        pass


class NotReady(OrError):
    def __init__(self, part):
        self.part = part


class Unlike(OrError):
    def __init__(self):
        pass


class Taken(OrError):
    def __init__(self, name):
        self.name = name


class WrongCount(OrError):
    def __init__(self, wanted):
        self.wanted = wanted


class TooMany(OrError):
    def __init__(self, part):
        self.part = part


class TooLarge(OrError):
    def __init__(self, limit):
        self.limit = limit
