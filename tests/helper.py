"""What the tests share: the values of the document, slow ways to reckon, and wrong values."""

import math
import random
import sys
from fractions import Fraction
from itertools import permutations, product

from ballgrids.form.forms import Form

LONG = 10 ** 60
MOST = LONG - 1

PLANE = Form(((2, 1), (1, 2)))
CUBE = Form(((1, 0, 0), (0, 1, 0), (0, 0, 1)))
BODY = Form(((3, -1, -1), (-1, 3, -1), (-1, -1, 3)))
FACED = Form(((2, 1, 1), (1, 2, 1), (1, 1, 2)))
TWENTY_FOUR = Form(((2, 1, 1, 1), (1, 2, 1, 1), (1, 1, 2, 0), (1, 1, 0, 2)))
FOURTH = Form(((2, 1, 1, 1), (1, 2, 1, 1), (1, 1, 2, 1), (1, 1, 1, 2)))
GRID = Form.diagonal(1, 1, 1, 1)
FORMS = (PLANE, CUBE, BODY, FACED, TWENTY_FOUR, FOURTH, GRID)


def nested(depth):
    value = (1, 0)
    for _ in range(depth - 1):
        value = (value, value[0])
    return value


# Invalid for each parameter, but where a test takes some of them out.
WRONG = (
    True, False, None, "", "ab", "1" * 3000, " \t\n~", [], [1, 0], [[1, 0], [0, 1]], ((1, 0), [0, 1]), [(1, 0), (0, 1)],
    {}, {0: (1, 0), 1: (0, 1)}, {(1, 0): True}, (), ((),), (((),),), (None,), (None, None), ("a", "b"),
    ((1, 0), (0, True)), ((True, False), (False, True)), ((1, 0), (0, None)), ((1, 0), "01"), ((1, 0), (0, "1")),
    ((1, 0), (0, 1, 0)), (1, (0, 1)), (True, 0), (1, False, 0), (True, True, True, True), nested(8),
    (PLANE,), (PLANE, PLANE), ((PLANE, PLANE), (PLANE, PLANE)), PLANE, CUBE, TWENTY_FOUR,
    LONG, -LONG, 10 ** 99, (LONG, 1), (1, -LONG), ((LONG, 1), (1, LONG)), ((10 ** 99, 0), (0, 1)),
)


def outcome(call, *arguments):
    """The result of a call, or its error."""
    try:
        return call(*arguments)
    except Exception as error:
        return error


# Reckoning in the most direct way.

def det(lines):
    """The determinant as the sum over all orders of the columns."""
    total = 0
    for order in permutations(range(len(lines))):
        sign = 1
        for i in range(len(order)):
            for j in range(i):
                if order[j] > order[i]:
                    sign = -sign
        for line, column in zip(lines, order):
            sign *= line[column]
        total += sign
    return total


def value(table, row):
    size = range(len(row))
    return sum(table[i][j] * row[i] * row[j] for i in size for j in size)


def pairing(table, one, other):
    size = range(len(one))
    return sum(table[i][j] * one[i] * other[j] for i in size for j in size)


def times(one, other):
    return tuple(tuple(sum(a * b for a, b in zip(row, column)) for column in zip(*other)) for row in one)


def transposed(lines):
    return tuple(zip(*lines))


def led(table, matrix):
    return times(transposed(matrix), times(table, matrix))


def lead(matrix, row):
    return tuple(sum(a * b for a, b in zip(line, row)) for line in matrix)


def unit(size):
    return tuple(tuple(int(i == j) for j in range(size)) for i in range(size))


def adjoint(table):
    size = range(len(table))

    def minor(i, j):
        return det([[table[r][c] for c in size if c != j] for r in size if r != i])

    return tuple(tuple((-1) ** (i + j) * minor(i, j) for j in size) for i in size)


def inverse(matrix):
    sign = det(matrix)
    return tuple(tuple(sign * number for number in line) for line in transposed(adjoint(matrix)))


def normal(row):
    for number in row:
        if number:
            return row if number > 0 else tuple(-n for n in row)
    return None


def is_normal(row):
    return normal(row) == row


def rows_below(table, bound):
    """All normal rows with values up to the bound, with their values, ascending, found in a box.

    The square of an entry of a row is at most its value, multiplied by the entry of the
    adjoint on the diagonal and divided by the determinant.
    """
    back, whole = adjoint(table), det(table)
    ends = [math.isqrt(bound * back[i][i] // whole) for i in range(len(table))]
    found = []
    for row in product(*[range(-end, end + 1) for end in ends]):
        if any(row) and is_normal(row):
            number = value(table, row)
            if number <= bound:
                found.append((number, row))
    return sorted(found)


def slow_rank(lines):
    """The rank as the size of the greatest minor other than 0."""
    height, width = len(lines), len(lines[0])
    for size in range(min(height, width), 0, -1):
        for rows in permutations(range(height), size):
            if list(rows) != sorted(rows):
                continue
            for columns in permutations(range(width), size):
                if list(columns) == sorted(columns) and det([[lines[r][c] for c in columns] for r in rows]):
                    return size
    return 0


def slow_successive(table):
    """The successive least values, taken one by one from all short rows."""
    bound = max(table[i][i] for i in range(len(table)))
    taken, values = [], []
    for number, row in rows_below(table, bound):
        if slow_rank(taken + [row]) > len(taken):
            taken.append(row)
            values.append(number)
    return tuple(values)


def slow_matrices(one, other):
    """All matrices between two tables, column by column, from all rows with the right values."""
    size = len(one)
    known = rows_below(one, max(other[i][i] for i in range(size)))
    choices = []
    for i in range(size):
        rows = [row for number, row in known if number == other[i][i]]
        choices.append(rows + [tuple(-n for n in row) for row in rows])
    found = [()]
    for i in range(size):
        found = [
            columns + (row,) for columns in found for row in choices[i]
            if all(pairing(one, columns[j], row) == other[j][i] for j in range(i))
        ]
    return tuple(sorted(transposed(columns) for columns in found if abs(det(columns)) == 1))


def sign_rows(size, index):
    """The rows of [3.1] for an index."""
    for signs in product((-1, 0, 1), repeat=index):
        yield signs + (1,) + (0,) * (size - index - 1)


def slow_reduced(table):
    """Whether a table is reduced, by the words of [3.1]."""
    size = len(table)
    if any(table[i][i] > table[i + 1][i + 1] for i in range(size - 1)):
        return False
    return all(value(table, row) >= table[i][i] for i in range(size) for row in sign_rows(size, i))


def square_of(row):
    return tuple(tuple(a * b for b in row) for a in row)


def sum_table(tables, weights=None):
    """The sum of some tables, each multiplied by its weight."""
    weights = weights or [1] * len(tables)
    size = range(len(tables[0]))
    return tuple(tuple(sum(w * t[i][j] for t, w in zip(tables, weights)) for j in size) for i in size)


def multiple(table, number):
    return tuple(tuple(number * entry for entry in row) for row in table)


def product_sum(one, other):
    """Two tables together [0.9]."""
    return sum(a * b for row, line in zip(one, other) for a, b in zip(row, line))


def uppers(table):
    return [table[i][j] for i in range(len(table)) for j in range(i, len(table))]


def solved(lines, values):
    """Fractions that make the values of the columns of the lines, or None; and whether they are the only ones."""
    width = len(lines[0])
    rest = [[Fraction(number) for number in line] + [Fraction(value)] for line, value in zip(lines, values)]
    done = []
    for column in range(width):
        index = next((i for i in range(len(done), len(rest)) if rest[i][column]), None)
        if index is None:
            continue
        at = len(done)
        rest[at], rest[index] = rest[index], rest[at]
        rest[at] = [number / rest[at][column] for number in rest[at]]
        for i in range(len(rest)):
            if i != at and rest[i][column]:
                rest[i] = [a - rest[i][column] * b for a, b in zip(rest[i], rest[at])]
        done.append(column)
    if any(line[-1] for line in rest[len(done):]):
        return None, False
    found = [Fraction(0)] * width
    for at, column in enumerate(done):
        found[column] = rest[at][-1]
    return found, len(done) == width


def ratio(fraction):
    """A fraction as a pair of the top and the bottom."""
    return (fraction.numerator, fraction.denominator)


# Values made by chance, the same ones at each run.

def some_table(chance, size, most):
    """A positive table."""
    while True:
        lines = [[chance.randint(-most, most) for _ in range(size)] for _ in range(size)]
        table = times(lines, transposed(lines))
        if det(table) > 0:
            return table


def some_matrix(chance, size, steps, most):
    """A matrix: some lines are added to others again and again."""
    lines = [list(line) for line in unit(size)]
    for _ in range(steps):
        one, other = chance.sample(range(size), 2)
        factor = chance.randint(-most, most)
        lines[one] = [a + factor * b for a, b in zip(lines[one], lines[other])]
        if chance.random() < 0.3:
            lines[one] = [-a for a in lines[one]]
    return tuple(tuple(line) for line in lines)


def far_matrix(chance, size, digits):
    """A matrix whose greatest integers have about so many digits, at most sixty."""
    lower = [[int(i == j) for j in range(size)] for i in range(size)]
    upper = [[int(i == j) for j in range(size)] for i in range(size)]
    for i in range(size):
        for j in range(i):
            lower[i][j] = chance.randint(-9, 9)
            upper[j][i] = chance.randint(-10 ** (digits - 3), 10 ** (digits - 3))
    return times(tuple(map(tuple, lower)), tuple(map(tuple, upper)))


def chance_of(seed):
    return random.Random(seed)


def many_forms(seed, count, most=3):
    """Forms of all sizes, some of them with many symmetries."""
    chance = chance_of(seed)
    made = list(FORMS)
    for number in range(count):
        size = 2 + number % 3
        made.append(Form(some_table(chance, size, most)))
        base = chance.choice([form for form in FORMS if form.size == size])
        made.append(base.led(some_matrix(chance, size, 3, 1)))
    return made


def calls_of(call, *arguments):
    """How many functions written in Python run in a call; unlike a time, it is the same at each run."""
    count = [0]

    def note(frame, event, told):
        count[0] += event == "call"

    sys.setprofile(note)
    try:
        outcome(call, *arguments)
    finally:
        sys.setprofile(None)
    return count[0]
