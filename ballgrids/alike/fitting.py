"""Finding the matrices between two positive tables of any length; nothing is checked here.

Both tables are reduced first. Then a matrix between them leads each unit row to a row
with the same value as in the second table. The rows that belong to lesser numbers on
the diagonal are mixes of just as many of the first unit rows.
"""

from ballgrids.base.lines import adjugate, determinant_of, dot, multiplied, turned
from ballgrids.form.algebra import image, undone, value_at
from ballgrids.short.reducing import reduced_lattice
from ballgrids.short.search import rows_within, shadows_of


def opposite(row):
    """The row with all signs changed."""
    return tuple([-number for number in row])


def lesser_ones(table, index):
    """How many numbers on the diagonal are less than the one with the index."""
    return len([place for place in range(index) if table[place][place] < table[index][index]])


def tails_of_columns(one, other):
    """For each column of a matrix all that it can have behind the first lesser ones.

    The shadow of the table behind them tells the value that is left for these entries.
    So they stay few, even if far more rows have the value of the column.
    """
    shadows, wanted = shadows_of(one), shadows_of(other)
    found = []
    for index in range(len(one)):
        start = lesser_ones(other, index)
        table = shadows[start][1]
        value = wanted[start][1][index - start][index - start]
        tails = [row for row in rows_within(table, value) if value_at(table, row) == value]
        found.append(tails + [opposite(row) for row in tails])
    return found


def heads_of_column(images, pairings, start, tails):
    """The rows with these tails and the told pairings with the first columns.

    `images` are the rows that make a row's pairings with these columns.
    """
    if start == 0:
        return tails
    block = [line[:start] for line in images[:start]]
    divisor, solver = determinant_of(block), adjugate(block)
    found = []
    for tail in tails:
        rests = [pairing - dot(line[start:], tail) for line, pairing in zip(images[:start], pairings)]
        tops = image(solver, rests)
        if all([top % divisor == 0 for top in tops]):
            found.append(tuple([top // divisor for top in tops]) + tail)
    return found


def extend(tables, tails, columns, images, most, found):
    """Puts the matrices that begin with the columns into a list, until it has so many."""
    one, other = tables
    index = len(columns)
    if index == len(one):
        found.append(turned(columns))
        return
    start, pairings = lesser_ones(other, index), other[index][:index]
    for row in heads_of_column(images, pairings, start, tails[index]):
        if all([dot(line, row) == pairing for line, pairing in zip(images[start:], pairings[start:])]):
            extend(tables, tails, columns + [row], images + [image(one, row)], most, found)
        if most is not None and len(found) >= most:
            return


def matrices_of_reduced(one, other, most=None):
    """The matrices between two reduced tables, at most so many of them."""
    for index in range(len(one)):
        if one[index][index] != other[index][index]:
            return []
    if determinant_of(one) != determinant_of(other):
        return []
    found = []
    extend((one, other), tails_of_columns(one, other), [], [], most, found)
    return found


def matrices_of_tables(one, other, most=None):
    """The matrices between two positive tables, at most so many."""
    first, second = reduced_lattice(one), reduced_lattice(other)
    found = matrices_of_reduced(first[0], second[0], most)
    ahead, behind = turned(first[1]), undone(turned(second[1]))
    return [multiplied(multiplied(ahead, matrix), behind) for matrix in found]
