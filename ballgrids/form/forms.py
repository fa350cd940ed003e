"""Forms: positive tables in two, three or four letters [2.2], [2.3]."""

from ballgrids.base.digits import written_square
from ballgrids.base.kinds import is_long_row
from ballgrids.base.lines import adjugate, determinant_of, first_other_than_0, leading_block
from ballgrids.base.numbers import divisor_of, is_integer, is_whole
from ballgrids.errors import InvalidForm, InvalidNumber, InvalidOperation
from ballgrids.form.algebra import (
    divided, entries_of, image, is_positive_table, led_by, minors_of, pairing_of, scaled, table_sum, value_at)
from ballgrids.form.matrices import fits_table, need_matrix, need_row, need_size, need_table, size_of

SMALLEST = ((1, 0), (0, 1))


class Form:
    """A positive table. It never changes."""

    def __init__(self, table):
        if not fits_table(size_of(table), table):
            raise InvalidForm("a form must have a table of the size 2, 3 or 4")
        if not is_positive_table(table):
            raise InvalidForm("the table of a form must be positive")
        self._table = table

    @classmethod
    def diagonal(cls, *numbers):
        """The form with these integers on the diagonal and 0 elsewhere."""
        if not size_of(numbers):
            raise InvalidForm("the diagonal must have two to four integers")
        return cls(diagonal_table(numbers))

    @property
    def size(self):
        """The number of letters."""
        return len(self._table)

    @property
    def table(self):
        """The positive table."""
        return self._table

    @property
    def determinant(self):
        """The determinant of the table."""
        return determinant_of(self._table)

    @property
    def minors(self):
        """The determinants of the first k rows and columns, for k from 1 on [2.2]."""
        return minors_of(self._table)

    @property
    def adjoint(self):
        """The form with the adjoint table [0.11]."""
        return form_with(adjugate(self._table))

    @property
    def content(self):
        """The greatest integer that divides all integers of the table."""
        return divisor_of(entries_of(self._table))

    def value(self, row):
        """The value at a row."""
        need_row(len(self._table), row)
        return value_at(self._table, row)

    def pairing(self, one, other):
        """The pairing of two rows."""
        need_row(len(self._table), one)
        need_row(len(self._table), other)
        return pairing_of(self._table, one, other)

    def led(self, matrix):
        """The form led by a matrix."""
        need_matrix(len(self._table), matrix)
        return form_with(led_by(self._table, matrix))

    def cleared(self):
        """The form with the table divided by the content."""
        return form_with(divided(self._table, divisor_of(entries_of(self._table))))

    def __add__(self, other):
        if not isinstance(other, Form):
            return NotImplemented
        if len(self._table) != len(other._table):
            raise InvalidOperation("the sizes of both forms must be equal")
        return form_with(table_sum(self._table, other._table))

    def __mul__(self, other):
        if not is_whole(other):
            return NotImplemented
        if not is_integer(other) or other < 1:
            raise InvalidNumber(other)
        return form_with(scaled(self._table, other))

    def __eq__(self, other):
        return isinstance(other, Form) and self._table == other._table

    def __len__(self):
        return len(self._table)

    def __str__(self):
        return f"form {written_square(self._table)}"


def form_with(table):
    """The form with a table that is known to be positive, whatever the sizes of its integers are."""
    form = Form(SMALLEST)
    form._table = table
    return form


def diagonal_table(numbers):
    """The table with these numbers on the diagonal and 0 elsewhere."""
    places = range(len(numbers))
    return tuple([tuple([numbers[row] if row == column else 0 for column in places]) for row in places])


def is_positive(size, value):
    """Whether the value is a positive table of the size."""
    need_size(size)
    return fits_table(size, value) and is_positive_table(value)


def barrier(size, table):
    """Any row that is not all 0 at which the table is at most 0, or None."""
    need_size(size)
    need_table(size, table)
    for index, number in enumerate(minors_of(table)):
        if number <= 0:
            return barrier_row(table, index)
    return None


def barrier_row(table, index):
    """A barrier, if the minors ahead of the one with this index are above 0.

    Of all rows with the entry 1 at the index, and 0 behind it, the one with the least
    value is taken; its value is the quotient of the minor and the one ahead of it.
    """
    block = leading_block(table, index)
    column = [row[index] for row in table[:index]]
    ahead = [-number for number in image(adjugate(block), column)]
    row = ahead + [determinant_of(block)] + [0] * (len(table) - index - 1)
    divisor = divisor_of(row)
    return tuple([number // divisor for number in row])


def is_barrier(size, table, value):
    """Whether the value is a barrier of the table, with integers of any length."""
    need_size(size)
    need_table(size, table)
    if not is_long_row(size, value) or first_other_than_0(value) is None:
        return False
    return value_at(table, value) <= 0
