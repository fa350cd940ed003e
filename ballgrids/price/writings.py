"""Ways to write a positive table as a sum of squares [12.2], and prices; nothing else is checked here."""

from ballgrids.base.kinds import is_long_row
from ballgrids.base.numbers import is_whole, ratio_of
from ballgrids.form.algebra import is_normal, is_positive_table, made_together, scaled, squares_sum
from ballgrids.short.reducing import reduced_lattice


def are_writing_rows(size, value):
    """Whether the value is an ascending tuple of normal rows, at least one."""
    if not isinstance(value, tuple) or len(value) == 0:
        return False
    if not all([is_long_row(size, row) and is_normal(row) for row in value]):
        return False
    return all([row < behind for row, behind in zip(value, value[1:])])


def writes(table, rows, weights, scale):
    """Whether rows, weights and a scale, whatever they are, are a writing of the table."""
    if not are_writing_rows(len(table), rows) or not is_long_row(len(rows), weights) or not is_whole(scale):
        return False
    if min(weights) < 1:
        return False
    return squares_sum(rows, weights) == scaled(table, scale)


def is_dear(table, bottom):
    """Whether a table is positive, and its least value, the first one of a reduced table, is at least the bottom."""
    return is_positive_table(table) and reduced_lattice(table)[0][0][0] >= bottom


def price_with(table, told, bottom):
    """The price of a table by a price table."""
    return ratio_of(made_together(told, table), bottom)


def sum_with(weights, scale):
    """The sum of a writing."""
    return ratio_of(sum(weights), scale)
