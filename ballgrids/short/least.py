"""The least rows of a positive table of integers of any length; nothing is checked here."""

from ballgrids.base.lines import turned, unit_lines
from ballgrids.form.algebra import image, made_normal, value_at
from ballgrids.short.reducing import reduced_lattice
from ballgrids.short.signs import SIGN_ROWS, sign_values

# The rows of which one can be a least row of a reduced form beside eleven rows of signs.
DOUBLE_ROWS = (
    (2, 1, 1, 1), (2, 1, 1, -1), (2, 1, -1, 1), (2, 1, -1, -1), (2, -1, 1, 1), (2, -1, 1, -1), (2, -1, -1, 1),
    (2, -1, -1, -1), (1, 2, 1, 1), (1, 2, 1, -1), (1, 2, -1, 1), (1, 2, -1, -1), (1, -2, 1, 1), (1, -2, 1, -1),
    (1, -2, -1, 1), (1, -2, -1, -1), (1, 1, 2, 1), (1, 1, 2, -1), (1, 1, -2, 1), (1, 1, -2, -1), (1, -1, 2, 1),
    (1, -1, 2, -1), (1, -1, -2, 1), (1, -1, -2, -1), (1, 1, 1, 2), (1, 1, 1, -2), (1, 1, -1, 2), (1, 1, -1, -2),
    (1, -1, 1, 2), (1, -1, 1, -2), (1, -1, -1, 2), (1, -1, -1, -2))
# Only the forms alike to a multiple of D4 have so many least rows, and then one more.
NEARLY_ALL = 11


def least_of_reduced(lattice):
    """The least rows of a reduced table, normal ones, in any order.

    Where a least row has a number other than 0, it can take the place of the unit row there
    among the rows with the successive least values. So the value of this is the least one,
    too, and the number is 1 or -1, but for the forms of [3.3] whose rows need be no basis.
    """
    least, size = lattice[0][0], len(lattice)
    many = 1
    while many < size and lattice[many][many] == least:
        many += 1
    found = [row for row, value in zip(SIGN_ROWS[size], sign_values(lattice, many)) if value == least]
    if len(found) == NEARLY_ALL:
        found = found + [row for row in DOUBLE_ROWS if value_at(lattice, row) == least]
    return found


def least_rows_of(lattice, basis):
    """The ascending list of the least rows of a reduced table, led by the rows of a basis."""
    rows = least_of_reduced(lattice)
    if basis == unit_lines(len(lattice)):
        return sorted(rows)
    columns = turned(basis)
    return sorted([made_normal(image(columns, row)) for row in rows])


def shortest(table):
    """The pair of the least value and the ascending list of the least rows."""
    lattice, basis = reduced_lattice(table)
    return lattice[0][0], least_rows_of(lattice, basis)
