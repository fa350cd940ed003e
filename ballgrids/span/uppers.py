"""Tables as lines of their upper numbers [7.1]; nothing is checked here."""

from ballgrids.base.echelons import kernel_of, last_of_kernel, lead_steps


def count_of_uppers(size):
    """How many upper numbers there are."""
    return size * (size + 1) // 2


def square_uppers(row):
    """The upper numbers of the square of a row."""
    return tuple([first * second for at, first in enumerate(row) for second in row[at:]])


def value_factors(row):
    """What makes the value at the row of a table's upper numbers: each one aside the diagonal counts twice."""
    if len(row) == 4:
        a, b, c, d = row
        x, y, z = 2 * a, 2 * b, 2 * c
        return (a * a, x * b, x * c, x * d, b * b, y * c, y * d, c * c, z * d, d * d)
    if len(row) == 3:
        a, b, c = row
        return (a * a, 2 * a * b, 2 * a * c, b * b, 2 * b * c, c * c)
    a, b = row
    return (a * a, 2 * a * b, b * b)


def uppers_of(table):
    """The upper numbers of a table."""
    return tuple([number for at, line in enumerate(table) for number in line[at:]])


def table_of_uppers(size, numbers):
    """The table with these upper numbers."""
    if size == 4:
        a, b, c, d, e, f, g, h, i, j = numbers
        return ((a, b, c, d), (b, e, f, g), (c, f, h, i), (d, g, i, j))
    if size == 3:
        a, b, c, d, e, f = numbers
        return ((a, b, c), (b, d, e), (c, e, f))
    a, b, c = numbers
    return ((a, b), (b, c))


def rank_of_squares_of(rows):
    """The rank of some rows."""
    return len(lead_steps([square_uppers(row) for row in rows]))


def zero_tables(rows):
    """The base of the tables that are 0 at some rows [7.2]."""
    size = len(rows[0])
    return tuple([table_of_uppers(size, line) for line in kernel_of([value_factors(row) for row in rows])])


def last_zero_table(rows):
    """The last table of the base of those that are 0 at some rows, or None if there is none."""
    line = last_of_kernel([value_factors(row) for row in rows])
    return None if line is None else table_of_uppers(len(rows[0]), line)


def table_with_values(rows, values):
    """The pair of a table and a scale that `table_by_values` tells, or None; the rows span.

    The values, with the opposite sign, are one more column: what makes 0 of all the lines
    is the table, and behind it the scale. Each other such line is a multiple of this one.
    """
    found = kernel_of([value_factors(row) + (-value,) for row, value in zip(rows, values)])
    if not found:
        return None
    # The echelon makes the first number of the table positive, where the scale should be so.
    sign = 1 if found[0][-1] > 0 else -1
    numbers = [sign * number for number in found[0]]
    return (table_of_uppers(len(rows[0]), numbers[:-1]), numbers[-1])
