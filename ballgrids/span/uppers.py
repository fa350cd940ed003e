"""Tables as lines of their upper numbers [7.1]; nothing is checked here."""

from ballgrids.base.echelons import kernel_of, lead_steps


def upper_places(size):
    """The places of the upper triangle, row by row."""
    return [(row, column) for row in range(size) for column in range(row, size)]


def count_of_uppers(size):
    """How many upper numbers there are."""
    return size * (size + 1) // 2


def square_uppers(row):
    """The upper numbers of the square of a row."""
    return tuple([row[place] * row[column] for place, column in upper_places(len(row))])


def value_factors(row):
    """What makes the value at the row of a table's upper numbers: each one aside the diagonal counts twice."""
    return tuple([
        row[place] * row[column] * (1 if place == column else 2) for place, column in upper_places(len(row))
    ])


def uppers_of(table):
    """The upper numbers of a table."""
    return tuple([table[row][column] for row, column in upper_places(len(table))])


def table_of_uppers(size, numbers):
    """The table with these upper numbers."""
    told = dict(zip(upper_places(size), numbers))
    return tuple([
        tuple([told[(min(row, column), max(row, column))] for column in range(size)]) for row in range(size)
    ])


def rank_of_squares_of(rows):
    """The rank of some rows."""
    return len(lead_steps([square_uppers(row) for row in rows]))


def zero_tables(rows):
    """The base of the tables that are 0 at some rows [7.2]."""
    size = len(rows[0])
    return tuple([table_of_uppers(size, line) for line in kernel_of([value_factors(row) for row in rows])])


def table_with_values(rows, values):
    """The pair of a table and a scale that `table_by_values` tells, or None; the rows span.

    The values, with the opposite sign, are one more column: what makes 0 of all the lines
    is the table, and behind it the scale. Each other such line is a multiple of this one.
    """
    found = kernel_of([value_factors(row) + (-value,) for row, value in zip(rows, values)])
    if not found:
        return None
    # The echelon makes the first number of the table positive, where the scale should be so.
    sign = 1 if found[0][-1] > 0 else -1
    numbers = [sign * number for number in found[0]]
    return (table_of_uppers(len(rows[0]), numbers[:-1]), numbers[-1])
