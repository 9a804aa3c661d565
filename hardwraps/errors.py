"""The errors that the modules of this package raise."""


class WrapError(ValueError):
    """The base class of all errors of this package."""


class InvalidWidths(WrapError):
    """A value is not a list of widths, or not a width."""


class InvalidPosition(WrapError):
    """A value is not a position."""


class InvalidLength(WrapError):
    """A value is not a length, or is too long here."""


class InvalidIndex(WrapError):
    """A value is not an index, or nothing has this index."""


class InvalidPeriod(WrapError):
    """A value is not a period that can be asked for."""


class InvalidPieces(WrapError):
    """A value is not a list of pieces, or not a list of such lists."""


class InvalidText(WrapError):
    """A value is not a string."""


class InvalidCommand(WrapError):
    """A value is not a command."""


class NotFitting(WrapError):
    """A list of widths does not fit the pieces."""


class NoWidths(WrapError):
    """No list of widths turns one text into the other."""


class NothingToUndo(WrapError):
    """The log of a document is empty."""


class TooMany(WrapError):
    """There are more of something than are answered for: `count` of them."""

    def __init__(self, count):
        WrapError.__init__(self, f"too many: {count}")
        self.count = count


class NotWrapped(WrapError):
    """No list of widths gives the pieces up to and with `position`."""

    def __init__(self, position):
        WrapError.__init__(self, f"no list of widths breaks the first {position} characters so")
        self.position = position


class Conflict(WrapError):
    """The lines with the indices `first` and `second` disagree."""

    def __init__(self, first, second):
        WrapError.__init__(self, f"the lines {first} and {second} disagree")
        self.first = first
        self.second = second


class ParseError(WrapError):
    """A text is not in the notation; its part `index` is the first that is wrong."""

    def __init__(self, index=None):
        WrapError.__init__(self, f"not in the notation, index of the part: {index}")
        self.index = index
