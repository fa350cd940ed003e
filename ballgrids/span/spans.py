"""What the least rows of a form tell about it [7.1] to [7.3]."""

from ballgrids.alike.fitting import matrices_of_tables
from ballgrids.base.kinds import is_long_table
from ballgrids.base.numbers import are_integers, is_whole
from ballgrids.cone.told import NAMES, RAYS, TABLES, Copy, copy_with
from ballgrids.errors import InvalidOperation, InvalidRows
from ballgrids.form.algebra import divided, entries_of, scaled, value_at
from ballgrids.form.matrices import fits_row, need_size
from ballgrids.form.needs import need_form
from ballgrids.short.search import shortest
from ballgrids.span.uppers import count_of_uppers, rank_of_squares_of, table_with_values, zero_tables

MAX_SPANNED = 40


def need_rows(size, rows):
    """Raises the error if the value is no tuple of 1 to 40 rows of the size."""
    if not isinstance(rows, tuple) or not 1 <= len(rows) <= MAX_SPANNED:
        raise InvalidRows("there must be a tuple of 1 to 40 rows")
    if not all([fits_row(size, row) for row in rows]):
        raise InvalidRows("each row must be a tuple of as many integers as the size")


def rank_of_rows(size, rows):
    """The rank of the upper numbers of the squares of some rows."""
    need_size(size)
    need_rows(size, rows)
    return rank_of_squares_of(rows)


def base_of_zeros(size, rows):
    """The base of the tables that are 0 at some rows."""
    need_size(size)
    need_rows(size, rows)
    return zero_tables(rows)


def table_by_values(size, rows, values):
    """The pair of a table and a scale with the values at the rows, multiplied by it, or None."""
    need_size(size)
    need_rows(size, rows)
    if not are_integers(values, len(rows), len(rows)):
        raise InvalidOperation("the values must be a tuple of as many integers as there are rows")
    if rank_of_squares_of(rows) < count_of_uppers(size):
        raise InvalidOperation("the rows must span")
    return table_with_values(rows, values)


def rank_of_squares(form):
    """The rank of the least rows."""
    need_form(form)
    return rank_of_squares_of(shortest(form.table)[1])


def is_perfect(form):
    """Whether the least rows span."""
    return rank_of_squares(form) == count_of_uppers(form.size)


def blanks(form):
    """The base of the tables that are 0 at the least rows."""
    need_form(form)
    return zero_tables(shortest(form.table)[1])


def is_blank(form, value):
    """Whether the value is a table that is blank for the form, with integers of any length."""
    need_form(form)
    if not is_long_table(form.size, value) or all([entry == 0 for entry in entries_of(value)]):
        return False
    return all([value_at(value, row) == 0 for row in shortest(form.table)[1]])


def told_copy(form):
    """Any pair of a copy and a number that makes the perfect form of the form of the copy, or None."""
    if not is_perfect(form):
        return None
    # The number of least rows tells to which told form a perfect one is alike [7.3].
    many = len(shortest(form.table)[1])
    name = [told for told in NAMES if len(RAYS[told]) == many][0]
    matrix = matrices_of_tables(divided(form.table, form.content), TABLES[name], 1)[0]
    return (copy_with(name, matrix), form.content)


def is_told_copy(form, value):
    """Whether the value is a pair of a copy and a number that makes the form of the form of the copy."""
    need_form(form)
    if not isinstance(value, tuple) or len(value) != 2:
        return False
    copy, number = value
    if not isinstance(copy, Copy) or not is_whole(number):
        return False
    return scaled(copy.form.table, number) == form.table
