"""Finding all short rows of a positive table of any length; nothing is checked here."""

from math import isqrt

from ballgrids.base.lines import cleared_line, dot
from ballgrids.form.algebra import made_normal, value_at
from ballgrids.short.reducing import reduced_lattice


def shadows_of(table):
    """A pair of a scale and a table for each letter.

    The value of the table with the index i at the entries of a row from i on is the
    scale, multiplied by the least value that any fractions ahead of them make of them.
    """
    rest, scale, found = table, 1, []
    for _ in range(len(table)):
        found.append((scale, rest))
        pivot = rest[0]
        rest = [cleared_line(pivot, line, 0, scale)[1:] for line in rest[1:]]
        scale = pivot[0]
    return found


def entry_bounds(shadow, bound, tail):
    """The least and the greatest entry ahead of a tail of a row with values up to the bound."""
    scale, table = shadow
    first = table[0][0]
    mixed = dot(table[0][1:], tail)
    rest = value_at([line[1:] for line in table[1:]], tail) - bound * scale
    root = isqrt(mixed * mixed - first * rest)
    return -((mixed + root) // first), (root - mixed) // first


def gather(shadows, bound, tail, most, found):
    """Puts the rows that end with the tail into a list, until it has more than so many."""
    index = len(shadows) - len(tail) - 1
    if index < 0:
        found.append(tail)
        return
    low, high = entry_bounds(shadows[index], bound, tail)
    if not any([number != 0 for number in tail]):
        # Of a row and its opposite one is enough, and the row of zeros is left out.
        low = 0 if index > 0 else 1
    for number in range(low, high + 1):
        gather(shadows, bound, (number,) + tail, most, found)
        if most is not None and len(found) > most:
            return


def rows_within(table, bound, most=None):
    """One of each row and its opposite that are not all 0 and have values from 0 to the bound.

    If there are more than `most`, just one more is told.
    """
    found = []
    gather(shadows_of(table), bound, (), most, found)
    return found


def valued_rows(lattice, bound, most=None):
    """The ascending list of pairs of a value and a normal row, for values from 0 to the bound.

    The lattice is a reduced table with its basis, in whose letters the rows are told. If
    there are more than `most`, just one more is told.
    """
    table, basis = lattice
    columns = list(zip(*basis))
    return sorted([
        (value_at(table, row), made_normal(tuple([dot(row, column) for column in columns])))
        for row in rows_within(table, bound, most)
    ])


def shortest(table):
    """The pair of the least value and the ascending list of the least rows."""
    lattice = reduced_lattice(table)
    least = lattice[0][0][0]
    return least, [row for value, row in valued_rows(lattice, least)]
