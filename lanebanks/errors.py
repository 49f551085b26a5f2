"""The errors of this package."""


class BankError(ValueError):
    """The base of all errors of this package."""


class BadSet(BankError):
    """A part of a digit set, or a digit set, is wrong."""

    def __init__(self, part):
        self.part = part


class BadRule(BankError):
    """A part of a bank rule, or a bank rule, is wrong."""

    def __init__(self, part):
        self.part = part


class BadUnit(BankError):
    """A part of a unit of lanes is wrong."""

    def __init__(self, part):
        self.part = part


class BadTile(BankError):
    """A part of a pattern of addresses is wrong."""

    def __init__(self, part):
        self.part = part


class BadNumber(BankError):
    """A value is not the integer that is asked for."""

    def __init__(self, value):
        self.value = value


class BadLog(BankError):
    """An entry of a log, or a log, is wrong."""

    def __init__(self, at):
        self.at = at


class BadMemory(BankError):
    """A part of a memory is wrong."""

    def __init__(self, part):
        self.part = part


class BadText(BankError):
    """A word of a text cannot stand where it stands."""

    def __init__(self, line, word):
        self.line = line
        self.word = word


class BadCommand(BankError):
    """A word of a command cannot stand where it stands."""

    def __init__(self, word):
        self.word = word


class BadName(BankError):
    """A value is no name."""

    def __init__(self, value):
        self.value = value


class NoName(BankError):
    """A name stands for nothing."""

    def __init__(self, name):
        self.name = name


class NoMember(BankError):
    """A set has no member with an index."""

    def __init__(self, at):
        self.at = at


class Nothing(BankError):
    """There is nothing that can be taken back."""


class TooMany(BankError):
    """There is more of something than may be."""

    def __init__(self, what, most):
        self.what = what
        self.most = most
