"""The errors of the package [1.1], [1.2]."""


class GridError(ValueError):
    """What the errors that take a message, and ParseError, have in common."""


class InvalidTable(GridError):
    """A value that should be a table, or a list of lines, is none."""


class InvalidForm(GridError):
    """A value that should be a form is none."""


class InvalidMatrix(GridError):
    """A value that should be a matrix is none."""


class InvalidRow(GridError):
    """A value that should be a row is none."""


class InvalidRows(GridError):
    """A value that should be a tuple of told rows is none."""


class InvalidCopy(GridError):
    """A value that should be a copy is none."""


class InvalidStep(GridError):
    """A value that should be a step, or a word of steps, is none."""


class InvalidPromise(GridError):
    """A value that should be a promise is none."""


class InvalidOperation(GridError):
    """The arguments do not go together."""


class ParseError(GridError):
    """A text cannot be read; `index` tells from where on."""

    def __init__(self, index):
        self.index = index


class InvalidNumber(IndexError):
    """A number is not within its bounds; `given` is the value."""

    def __init__(self, given):
        self.given = given


class UnknownName(KeyError):
    """There is nothing with this name; `wanted` is the value."""

    def __init__(self, wanted):
        self.wanted = wanted


class TooMany(OverflowError):
    """There is more than a function handles; `most` is how much it does."""

    def __init__(self, most):
        self.most = most


class Refused(ArithmeticError):
    """A deed is not done; `reason` is a tuple that begins with a word."""

    def __init__(self, reason):
        self.reason = reason


class NothingToUndo(LookupError):
    """There are not so many versions to go back; `steps` is how many were asked for."""

    def __init__(self, steps):
        self.steps = steps
