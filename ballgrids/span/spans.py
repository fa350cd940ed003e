"""What the least rows of a form tell about it [7.1] to [7.3]."""

from ballgrids.base.kinds import is_long_table
from ballgrids.base.lines import dot, turned
from ballgrids.base.numbers import are_integers, divisor_of, is_whole
from ballgrids.cone.told import NAMES, RAYS, TABLES, Copy, copy_with
from ballgrids.errors import InvalidOperation, InvalidRows
from ballgrids.form.algebra import divided, entries_of, image, scaled, value_at
from ballgrids.form.matrices import fits_row, need_size
from ballgrids.form.needs import need_form
from ballgrids.short.least import shortest
from ballgrids.span.uppers import count_of_uppers, rank_of_squares_of, table_with_values, zero_tables

MAX_SPANNED = 40


def need_rows(size, rows):
    """Raises the error if the value is no tuple of 1 to 40 rows of the size."""
    if not isinstance(rows, tuple) or not 1 <= len(rows) <= MAX_SPANNED:
        raise InvalidRows("there must be a tuple of 1 to 40 rows")
    if not all([fits_row(size, row) for row in rows]):
        raise InvalidRows("each row must be a tuple of as many integers as the size")


def rank_of_rows(size, rows):
    """The rank of the upper numbers of the squares of some rows."""
    need_size(size)
    need_rows(size, rows)
    return rank_of_squares_of(rows)


def base_of_zeros(size, rows):
    """The base of the tables that are 0 at some rows."""
    need_size(size)
    need_rows(size, rows)
    return zero_tables(rows)


def table_by_values(size, rows, values):
    """The pair of a table and a scale with the values at the rows, multiplied by it, or None."""
    need_size(size)
    need_rows(size, rows)
    if not are_integers(values, len(rows), len(rows)):
        raise InvalidOperation("the values must be a tuple of as many integers as there are rows")
    if rank_of_squares_of(rows) < count_of_uppers(size):
        raise InvalidOperation("the rows must span")
    return table_with_values(rows, values)


def rank_of_squares(form):
    """The rank of the least rows.

    They are rays of a copy, to whose form a chain leads. The squares of its rays are
    independent, but for D4, and there as long as a ray of each frame is left out. With a
    whole frame all rays of D4 are least rows, as the squares of each frame add up to the same.
    """
    need_form(form)
    return min(len(shortest(form.table)[1]), count_of_uppers(form.size))


def is_perfect(form):
    """Whether the least rows span."""
    return rank_of_squares(form) == count_of_uppers(form.size)


def blanks(form):
    """The base of the tables that are 0 at the least rows."""
    need_form(form)
    rows = shortest(form.table)[1]
    return zero_tables(rows) if len(rows) < count_of_uppers(form.size) else ()


def is_blank(form, value):
    """Whether the value is a table that is blank for the form, with integers of any length."""
    need_form(form)
    if not is_long_table(form.size, value) or not any(entries_of(value)):
        return False
    return all([value_at(value, row) == 0 for row in shortest(form.table)[1]])


def columns_with(table, wanted, rows, columns):
    """Some rows with the wanted pairings by a table, if there are any that begin with these columns, or None."""
    at = len(columns)
    if at == len(wanted):
        return columns
    line = wanted[at][:at]
    for row in rows:
        if line == tuple([dot(told, row) for told in [image(table, column) for column in columns]]):
            found = columns_with(table, wanted, rows, columns + (row,))
            if found is not None:
                return found
    return None


def told_copy(form):
    """Any pair of a copy and a number that makes the perfect form of the form of the copy, or None."""
    need_form(form)
    rows = shortest(form.table)[1]
    if len(rows) < count_of_uppers(form.size):
        return None
    # The number of least rows tells to which told form a perfect one is alike [7.3]. The columns
    # of a matrix are least rows, with the pairings that the unit rows have by the told form.
    name = [told for told in NAMES if len(RAYS[told]) == len(rows)][0]
    number = divisor_of(entries_of(form.table))
    signed = rows + [tuple([-entry for entry in row]) for row in rows]
    columns = columns_with(divided(form.table, number), TABLES[name], signed, ())
    return (copy_with(name, turned(columns)), number)


def is_told_copy(form, value):
    """Whether the value is a pair of a copy and a number that makes the form of the form of the copy."""
    need_form(form)
    if not isinstance(value, tuple) or len(value) != 2:
        return False
    copy, number = value
    if not isinstance(copy, Copy) or not is_whole(number):
        return False
    return scaled(copy.form.table, number) == form.table
