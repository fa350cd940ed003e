"""Obtuse bases of forms in two and three letters [16.2], and the corners of cells [16.4]; nothing is checked here."""

from ballgrids.base.kinds import is_long_matrix, is_long_row
from ballgrids.base.lines import adjugate, dot, multiplied, turned, unit_lines
from ballgrids.base.numbers import divisor_of
from ballgrids.form.algebra import image, pairing_of
from ballgrids.short.reducing import reduced_lattice

# The orders of the places of an obtuse basis in which 0 stands ahead of 1.
ORDERS = {
    2: ((0, 1, 2), (0, 2, 1), (2, 0, 1)),
    3: (
        (0, 1, 2, 3), (0, 1, 3, 2), (0, 2, 1, 3), (0, 2, 3, 1), (0, 3, 1, 2), (0, 3, 2, 1), (2, 0, 1, 3), (2, 0, 3, 1),
        (2, 3, 0, 1), (3, 0, 1, 2), (3, 0, 2, 1), (3, 2, 0, 1)),
}


def row_sum(rows):
    """The sum of some rows."""
    return tuple([sum(numbers) for numbers in zip(*rows)])


def weights_between(table, rows):
    """The dict from the pairs of places to the opposites of the pairings of the rows at them."""
    images = [image(table, row) for row in rows]
    places = range(len(rows))
    return {(at, place): -dot(images[at], rows[place]) for at in places for place in places if at < place}


def turned_over(rows, at, place):
    """The rows with the one at the first place turned over, and the sum of all of them still 0."""
    turn = rows[at]
    share = 2 // (len(rows) - 2)
    made = [tuple([number + share * other for number, other in zip(row, turn)]) for row in rows]
    made[at] = tuple([-number for number in turn])
    made[place] = rows[place]
    return made


def obtuse_rows(table):
    """An obtuse basis of a positive table.

    Where a pairing is above 0, one of both rows is turned over, which makes the sum of the
    values less. In letters in which the table is reduced that ends at once.
    """
    lattice, basis = reduced_lattice(table)
    rows = list(unit_lines(len(table)))
    rows.append(tuple([-number for number in row_sum(rows)]))
    while True:
        weights = weights_between(lattice, rows)
        acute = [pair for pair in weights if weights[pair] < 0]
        if not acute:
            columns = turned(basis)
            return tuple([image(columns, row) for row in rows])
        rows = turned_over(rows, acute[0][0], acute[0][1])


def are_obtuse(table, value):
    """Whether the value is an obtuse basis of a table, with integers of any length."""
    size = len(table)
    if not isinstance(value, tuple) or len(value) != size + 1 or not is_long_row(size, value[-1]):
        return False
    if not is_long_matrix(size, value[:-1]) or any([number != 0 for number in row_sum(value)]):
        return False
    return min(list(weights_between(table, value).values())) >= 0


def sides_along(weights, order):
    """For each place but the last one twice the pairing of a corner with the row at it.

    The corner is as far from the rows that are sums of the first rows of the order as it
    is from the row of zeros.
    """
    position = {place: at for at, place in enumerate(order)}
    sides = [0] * len(order)
    for (one, other), weight in weights.items():
        ahead, behind = (one, other) if position[one] < position[other] else (other, one)
        sides[ahead] = sides[ahead] + weight
        sides[behind] = sides[behind] - weight
    return tuple(sides[:-1])


def all_sides(weights, size):
    """What `sides_along` tells for the orders in which 0 stands ahead of 1, each one once.

    The opposite orders tell the opposite corners.
    """
    return list({sides_along(weights, order): True for order in ORDERS[size]})


def pairings_along(weights, size):
    """The table of the pairings of the first rows of an obtuse basis with these weights."""
    made = [[0] * size for _ in range(size)]
    for (one, other), weight in weights.items():
        made[one][one] = made[one][one] + weight
        if other < size:
            made[other][other] = made[other][other] + weight
            made[one][other] = made[other][one] = -weight
    return made


def lowered(row, bottom):
    """The pair of a row and the least integer above 0 that tells the same point."""
    divisor = divisor_of(row + (bottom,))
    return (tuple([number // divisor for number in row]), bottom // divisor)


def corners_of(table, determinant):
    """The ascending list of the corners of the cell."""
    rows = obtuse_rows(table)
    weights = weights_between(table, rows)
    size = len(table)
    matrix = multiplied(turned(rows[:size]), adjugate(pairings_along(weights, size)))
    points = [image(matrix, sides) for sides in all_sides(weights, size)]
    opposite = [tuple([-number for number in point]) for point in points]
    return sorted(list({lowered(point, 2 * determinant): True for point in points + opposite}))


def greatest_value(table):
    """The greatest value at a corner, multiplied by four times the determinant."""
    weights = weights_between(table, obtuse_rows(table))
    size = len(table)
    back = adjugate(pairings_along(weights, size))
    return max([pairing_of(back, sides, sides) for sides in all_sides(weights, size)])
