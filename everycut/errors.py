"""The errors of the package."""


class EveryError(ValueError):
    """An argument or a call that is refused."""


class InvalidPicture(EveryError):
    """A value that is no picture."""


class InvalidDisk(EveryError):
    """A value that is no disk, pair or volume."""


class InvalidBlock(EveryError):
    """A value that is no block, or no cells of blocks."""


class InvalidCut(EveryError):
    """A value that is no cut."""


class InvalidName(EveryError):
    """A value that is no name or path."""


class InvalidDeed(EveryError):
    """A value that is no deed."""


class InvalidTree(EveryError):
    """A value that is no tree, or tells none."""


class InvalidRow(EveryError):
    """A value that is no row, key or change of rows."""


class InvalidOperation(EveryError):
    """A call that cannot be done as things stand."""


class Stopped(EveryError):
    """A write or flush that a pair was told not to let."""


class ParseError(EveryError):
    """A text that cannot be read; keeps where it fails."""

    def __init__(self, at):
        self.at = at


class InvalidNumber(IndexError):
    """A value that is no integer within its bounds; keeps the value."""

    def __init__(self, given):
        self.given = given


class UnknownName(KeyError):
    """A name under which nothing is kept; keeps the name."""

    def __init__(self, wanted):
        self.wanted = wanted


class TooMany(OverflowError):
    """More than can be dealt with; keeps how many can be."""

    def __init__(self, most):
        self.most = most


class NoRoom(OverflowError):
    """Less places than are needed; keeps how many are."""

    def __init__(self, wanted):
        self.wanted = wanted


class Refused(ArithmeticError):
    """What is refused for a reason, a tuple that begins with a word; keeps it."""

    def __init__(self, reason):
        self.reason = reason
