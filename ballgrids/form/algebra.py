"""Reckoning with rows, tables and matrices of any length; nothing is checked here."""

from ballgrids.base.lines import UNITS, adjugate, determinant_of, dot, first_other_than_0, multiplied, turned
from ballgrids.base.lines import leading_block


def image(matrix, row):
    """The row to which a square leads a row [0.10]."""
    if len(row) == 4:
        first, second, third, last = row
        return tuple([p * first + q * second + r * third + s * last for p, q, r, s in matrix])
    if len(row) == 3:
        first, second, last = row
        return tuple([p * first + q * second + r * last for p, q, r in matrix])
    if len(row) == 2:
        first, last = row
        return tuple([p * first + q * last for p, q in matrix])
    return tuple([dot(line, row) for line in matrix])


def pairing_of(table, one, other):
    """The pairing of two rows [0.8]."""
    return dot(image(table, one), other)


def value_at(table, row):
    """The value of a table at a row [0.8]."""
    if len(row) == 4:
        (a, b, c, d), (_, e, f, g), (_, _, h, i), (_, _, _, j) = table
        x, y, z, w = row
        return (
            (a * x + 2 * (b * y + c * z + d * w)) * x + (e * y + 2 * (f * z + g * w)) * y + (h * z + 2 * i * w) * z
            + j * w * w
        )
    if len(row) == 3:
        (a, b, c), (_, d, e), (_, _, f) = table
        x, y, z = row
        return (a * x + 2 * (b * y + c * z)) * x + (d * y + 2 * e * z) * y + f * z * z
    (a, b), (_, c) = table
    x, y = row
    return (a * x + 2 * b * y) * x + c * y * y


def made_normal(row):
    """The row or its opposite, whichever is normal; the row is not all 0."""
    for number in row:
        if number > 0:
            return row
        if number < 0:
            return tuple([-entry for entry in row])
    return row


def is_normal(row):
    """Whether the row is normal [0.8]."""
    index = first_other_than_0(row)
    return index is not None and row[index] > 0


def led_by(table, matrix):
    """The table led by the matrix [0.10]."""
    if matrix == UNITS[len(matrix)]:
        return table
    return multiplied(turned(matrix), multiplied(table, matrix))


def moved_by(table, matrix):
    """The table moved by the matrix [0.10]."""
    if matrix == UNITS[len(matrix)]:
        return table
    return multiplied(matrix, multiplied(table, turned(matrix)))


def opposite_table(table):
    """The square with each number's sign changed."""
    return tuple([tuple([-number for number in row]) for row in table])


def undone(matrix):
    """The matrix whose product with this one leads each row to itself."""
    back = adjugate(matrix)
    return back if determinant_of(matrix) == 1 else opposite_table(back)


def scaled(table, number):
    """The table with each number multiplied."""
    return tuple([tuple([number * entry for entry in row]) for row in table])


def divided(table, number):
    """The table with each number divided by one that divides all of them."""
    return tuple([tuple([entry // number for entry in row]) for row in table])


def minors_of(table):
    """The determinants of the first k rows and columns, for each k from 1 on [2.2]."""
    return tuple([determinant_of(leading_block(table, many)) for many in range(1, len(table) + 1)])


def is_positive_in_two(a, b, c):
    """Whether the table of two letters with these upper numbers is positive."""
    return a > 0 and a * c > b * b


def is_positive_in_three(a, b, c, d, e, f):
    """Whether the table of three letters with these upper numbers is positive."""
    return a > 0 and is_positive_in_two(a * d - b * b, a * e - b * c, a * f - c * c)


def is_positive_table(table):
    """Whether a table is positive.

    That is so if its first number is above 0, and if the table is positive that is left
    when the first letter is eliminated.
    """
    if len(table) == 4:
        (a, b, c, d), (_, e, f, g), (_, _, h, i), (_, _, _, j) = table
        return a > 0 and is_positive_in_three(
            a * e - b * b, a * f - b * c, a * g - b * d, a * h - c * c, a * i - c * d, a * j - d * d)
    if len(table) == 3:
        (a, b, c), (_, d, e), (_, _, f) = table
        return is_positive_in_three(a, b, c, d, e, f)
    (a, b), (_, c) = table
    return is_positive_in_two(a, b, c)


def entries_of(table):
    """All numbers of a table, row by row."""
    return [entry for row in table for entry in row]


def table_sum(one, other):
    """The sum of two tables."""
    return tuple([tuple([first + second for first, second in zip(row, line)]) for row, line in zip(one, other)])


def table_difference(one, other):
    """The difference of two tables."""
    return tuple([tuple([first - second for first, second in zip(row, line)]) for row, line in zip(one, other)])


def made_together(one, other):
    """The sum of the products of the numbers of two tables at equal places [0.9]."""
    return sum([dot(line, numbers) for line, numbers in zip(one, other)])


def squares_sum(rows, weights):
    """The sum of the squares of some rows, at least one, each multiplied by its weight."""
    columns = turned(rows)
    weighted = [[weight * number for number, weight in zip(column, weights)] for column in columns]
    sums = [[dot(line, column) for column in columns[at:]] for at, line in enumerate(weighted)]
    places = range(len(columns))
    return tuple([
        tuple([sums[min(at, place)][abs(at - place)] for place in places]) for at in places
    ])
