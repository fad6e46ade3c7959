"""The errors of the package: one class for each kind of failure."""


class FenceError(ValueError):
    """The base of all errors of the package."""


class InvalidSize(FenceError):
    """A value is no size."""


class InvalidNumber(FenceError):
    """A value is no such number as is asked for."""


class InvalidSide(FenceError):
    """A value is not the number of a side."""


class InvalidPoint(FenceError):
    """A value is no such point as is asked for."""


class InvalidMove(FenceError):
    """A value is no move."""


class InvalidDirection(FenceError):
    """A value is no direction."""


class InvalidLine(FenceError):
    """A value is no line."""


class InvalidName(FenceError):
    """A value is no such name as is asked for."""


class Impossible(FenceError):
    """The arguments are valid, but what is asked for does not exist."""


class NothingToUndo(FenceError):
    """There is no call that can be taken back."""


class InvalidCommand(FenceError):
    """A value has none of the forms of a command."""


# The messages of the classes below do not show the field: it may be any value,
# also one that cannot be written as a string.


class InvalidFence(FenceError):
    """A value is no fence; `part` is the part that is wrong, None for the whole."""

    def __init__(self, part):
        super().__init__("this is no fence")
        self.part = part


class InvalidPoints(FenceError):
    """A value is no list of points; `index` is the first wrong item, None for the whole."""

    def __init__(self, index):
        super().__init__("these are no points")
        self.index = index


class InvalidRule(FenceError):
    """A value is no rule; `index` is the first wrong row, None for the whole."""

    def __init__(self, index):
        super().__init__("this is no rule")
        self.index = index


class InvalidCounts(FenceError):
    """A value is no list of counts; `index` is the first wrong item, None for the whole."""

    def __init__(self, index):
        super().__init__("these are no counts")
        self.index = index


class InvalidLooks(FenceError):
    """A value is no list of looks; `index` is the first wrong item, None for the whole."""

    def __init__(self, index):
        super().__init__("these are no looks")
        self.index = index


class InvalidSyntax(FenceError):
    """A value is no such text as is asked for; `word` is the first wrong word, None for the whole."""

    def __init__(self, word):
        super().__init__("this is no such text")
        self.word = word
