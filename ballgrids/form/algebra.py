"""Reckoning with rows, tables and matrices of any length; nothing is checked here."""

from ballgrids.base.lines import adjugate, determinant_of, dot, first_other_than_0, multiplied, turned
from ballgrids.base.lines import leading_block


def image(matrix, row):
    """The row to which a square leads a row [0.10]."""
    return tuple([dot(line, row) for line in matrix])


def pairing_of(table, one, other):
    """The pairing of two rows [0.8]."""
    return dot(image(table, one), other)


def value_at(table, row):
    """The value of a table at a row [0.8]."""
    return pairing_of(table, row, row)


def made_normal(row):
    """The row or its opposite, whichever is normal; the row is not all 0."""
    if row[first_other_than_0(row)] < 0:
        return tuple([-number for number in row])
    return row


def is_normal(row):
    """Whether the row is normal [0.8]."""
    index = first_other_than_0(row)
    return index is not None and row[index] > 0


def led_by(table, matrix):
    """The table led by the matrix [0.10]."""
    return multiplied(turned(matrix), multiplied(table, matrix))


def moved_by(table, matrix):
    """The table moved by the matrix [0.10]."""
    return multiplied(matrix, multiplied(table, turned(matrix)))


def undone(matrix):
    """The matrix whose product with this one leads each row to itself."""
    sign = determinant_of(matrix)
    return tuple([tuple([sign * number for number in line]) for line in adjugate(matrix)])


def scaled(table, number):
    """The table with each number multiplied."""
    return tuple([tuple([number * entry for entry in row]) for row in table])


def divided(table, number):
    """The table with each number divided by one that divides all of them."""
    return tuple([tuple([entry // number for entry in row]) for row in table])


def minors_of(table):
    """The determinants of the first k rows and columns, for each k from 1 on [2.2]."""
    return tuple([determinant_of(leading_block(table, many)) for many in range(1, len(table) + 1)])


def entries_of(table):
    """All numbers of a table, row by row."""
    return [entry for row in table for entry in row]


def sum_of_tables(tables):
    """The table of the sums of the numbers at equal places of some tables."""
    return tuple([tuple([sum(numbers) for numbers in zip(*rows)]) for rows in zip(*tables)])


def table_sum(one, other):
    """The sum of two tables."""
    return sum_of_tables((one, other))


def table_difference(one, other):
    """The difference of two tables."""
    return table_sum(one, scaled(other, -1))


def made_together(one, other):
    """The sum of the products of the numbers of two tables at equal places [0.9]."""
    return dot(entries_of(one), entries_of(other))


def squares_sum(rows, weights):
    """The sum of the squares of some rows, at least one, each multiplied by its weight."""
    weighted = [[weight * number for number in row] for row, weight in zip(rows, weights)]
    return multiplied(turned(weighted), rows)
