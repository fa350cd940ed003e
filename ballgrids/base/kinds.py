"""What kind of value something is; the integers can have any length here."""

from ballgrids.base.lines import determinant_of, turned
from ballgrids.base.numbers import is_whole


def is_long_row(size, value):
    """Whether the value is a tuple of so many integers."""
    if not isinstance(value, tuple) or len(value) != size:
        return False
    return all([is_whole(number) for number in value])


def is_long_square(size, value):
    """Whether the value is a tuple of so many rows of so many integers."""
    if not isinstance(value, tuple) or len(value) != size:
        return False
    return all([is_long_row(size, row) for row in value])


def is_long_matrix(size, value):
    """Whether the value is a square with the determinant 1 or -1."""
    return is_long_square(size, value) and determinant_of(value) in (1, -1)


def is_long_table(size, value):
    """Whether the value is a symmetric square."""
    return is_long_square(size, value) and turned(value) == value
