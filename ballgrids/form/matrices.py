"""Rows, tables and matrices [0.8] to [0.10], [2.1]."""

from ballgrids.base.lines import determinant_of, first_other_than_0, multiplied, turned, unit_lines
from ballgrids.base.numbers import are_integers, is_integer
from ballgrids.errors import InvalidMatrix, InvalidNumber, InvalidOperation, InvalidRow, InvalidTable
from ballgrids.form.algebra import image, led_by, made_normal, made_together, moved_by, undone, value_at

SIZES = (2, 3, 4)


def need_size(size):
    """Raises the error if the value is no size."""
    if not is_integer(size) or size not in SIZES:
        raise InvalidNumber(size)


def size_of(value):
    """How many members a tuple has, if that is a size; otherwise 0, which fits nothing."""
    if isinstance(value, tuple) and len(value) in SIZES:
        return len(value)
    return 0


def fits_row(size, value):
    """Whether the value is a row of the size, or of no size for 0."""
    return size in SIZES and are_integers(value, size, size)


def fits_square(size, value):
    """Whether the value has as many rows of the size."""
    if size not in SIZES or not isinstance(value, tuple) or len(value) != size:
        return False
    return all([are_integers(row, size, size) for row in value])


def fits_table(size, value):
    """Whether the value is a symmetric square of the size."""
    return fits_square(size, value) and turned(value) == value


def fits_matrix(size, value):
    """Whether the value is a square of the size with the determinant 1 or -1."""
    return fits_square(size, value) and determinant_of(value) in (1, -1)


def need_row(size, row):
    """Raises the error if the value is no row of the size."""
    if not fits_row(size, row):
        raise InvalidRow("a row must be a tuple of as many integers as the size")


def need_table(size, table):
    """Raises the error if the value is no table of the size."""
    if not fits_table(size, table):
        raise InvalidTable("a table must have as many rows as the size and be symmetric")


def need_matrix(size, matrix):
    """Raises the error if the value is no matrix of the size."""
    if not fits_matrix(size, matrix):
        raise InvalidMatrix("a matrix must have as many rows as the size and the determinant 1 or -1")


def is_row(size, value):
    """Whether the value is a row of the size."""
    need_size(size)
    return fits_row(size, value)


def is_table(size, value):
    """Whether the value is a table of the size."""
    need_size(size)
    return fits_table(size, value)


def is_matrix(size, value):
    """Whether the value is a matrix of the size."""
    need_size(size)
    return fits_matrix(size, value)


def unit_matrix(size):
    """The matrix that leads each row to itself."""
    need_size(size)
    return unit_lines(size)


def matrix_product(one, other):
    """The matrix that leads as the second one does, and then the first one."""
    size = size_of(one)
    need_matrix(size, one)
    need_matrix(size, other)
    return multiplied(one, other)


def matrix_back(matrix):
    """The matrix that undoes this one."""
    need_matrix(size_of(matrix), matrix)
    return undone(matrix)


def normal_row(row):
    """The row or its opposite, whichever is normal."""
    need_row(size_of(row), row)
    if first_other_than_0(row) is None:
        raise InvalidOperation("a row that is all 0 has no normal one")
    return made_normal(row)


def square(row):
    """The table of the products of each two numbers of a row [0.9]."""
    need_row(size_of(row), row)
    return tuple([tuple([first * second for second in row]) for first in row])


def led_row(matrix, row):
    """The row to which the matrix leads the row."""
    size = size_of(matrix)
    need_matrix(size, matrix)
    need_row(size, row)
    return image(matrix, row)


def led_table(table, matrix):
    """The table led by the matrix."""
    size = size_of(table)
    need_table(size, table)
    need_matrix(size, matrix)
    return led_by(table, matrix)


def moved_table(table, matrix):
    """The table moved by the matrix."""
    size = size_of(table)
    need_table(size, table)
    need_matrix(size, matrix)
    return moved_by(table, matrix)


def table_value(table, row):
    """The value of the table at the row."""
    size = size_of(table)
    need_table(size, table)
    need_row(size, row)
    return value_at(table, row)


def together(one, other):
    """The sum of the products of the entries of two tables [0.9]."""
    size = size_of(one)
    need_table(size, one)
    need_table(size, other)
    return made_together(one, other)
