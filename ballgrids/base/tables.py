"""Lists of lines of integers [1.4], [1.5]."""

from ballgrids.base.echelons import echelon_of, kernel_of, mix_of, lead_steps
from ballgrids.base.lines import determinant_of, multiplied
from ballgrids.base.numbers import are_integers
from ballgrids.errors import InvalidOperation, InvalidRow, InvalidTable, TooMany

MAX_LINES = 40
MAX_DETERMINANT = 6


def is_list(value):
    """Whether the value is a list of lines of one width."""
    if not isinstance(value, tuple) or not 1 <= len(value) <= MAX_LINES:
        return False
    if not all([are_integers(line, 1, MAX_LINES) for line in value]):
        return False
    return all([len(line) == len(value[0]) for line in value])


def need_list(value):
    """Raises the error if the value is no list."""
    if not is_list(value):
        raise InvalidTable("a list must be a tuple of 1 to 40 tuples of equally many integers, 1 to 40")


def rank(lines):
    """The least number of lines of which all lines are mixes."""
    need_list(lines)
    return len(lead_steps(lines))


def echelon(lines):
    """The echelon [1.5]."""
    need_list(lines)
    return echelon_of(lines)


def kernel(lines):
    """The echelon of all tuples that make 0 with each of the lines."""
    need_list(lines)
    return kernel_of(lines)


def determinant(lines):
    """The determinant of a list with as many lines as its width."""
    need_list(lines)
    if len(lines) != len(lines[0]):
        raise InvalidTable("there must be as many lines as their width")
    if len(lines) > MAX_DETERMINANT:
        raise TooMany(MAX_DETERMINANT)
    return determinant_of(lines)


def product(one, other):
    """The product of two lists as matrices."""
    need_list(one)
    need_list(other)
    if len(one[0]) != len(other):
        raise InvalidOperation("the second list must have as many lines as the first one is wide")
    return multiplied(one, other)


def told_by(lines, line):
    """The pair (scale, factors) by which free lines tell a line, or None."""
    need_list(lines)
    width = len(lines[0])
    if not are_integers(line, width, width):
        raise InvalidRow("the line must be a tuple of as many integers as the width")
    if len(lead_steps(lines)) != len(lines):
        raise InvalidOperation("the lines must be free")
    return mix_of(lines, line)
