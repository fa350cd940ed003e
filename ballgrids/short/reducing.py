"""Reducing a positive table of integers of any length; nothing is checked here.

A lattice is kept as its table and the rows of its basis, told in the letters of the
table that is to be reduced.
"""

from ballgrids.base.lines import adjugate, determinant_of, dot, leading_block, unit_lines
from ballgrids.form.algebra import image


def nearest_signs(table, index):
    """The pair of the least value at a row of [3.1] for the index, and its entries ahead."""
    found = [(table[index][index], ())]
    for place in range(index):
        line = table[place]
        # What an entry adds: its own square, and its pairings with the ones ahead and with the last one.
        found = [
            (value + sign * (sign * line[place] + 2 * (line[index] + dot(line, signs))), signs + (sign,))
            for value, signs in found for sign in (-1, 0, 1)
        ]
    return min(found)


def is_reduced_table(table):
    """Whether a positive table is reduced [3.1]."""
    for index in range(1, len(table)):
        if table[index - 1][index - 1] > table[index][index]:
            return False
        if nearest_signs(table, index)[0] < table[index][index]:
            return False
    return True


def with_entry(line, index, number):
    """The line with another number at the index."""
    return line[:index] + (number,) + line[index + 1:]


def shifted(table, basis, index, factors):
    """The table and the basis after multiples of the rows ahead are added to the row with the index."""
    multipliers = factors + (1,)
    pairings = [dot(multipliers, [line[place] for line in table[:index + 1]]) for place in range(len(table))]
    own = dot(multipliers, pairings[:index + 1])
    made = [with_entry(line, index, pairings[place]) for place, line in enumerate(table)]
    made[index] = with_entry(tuple(pairings), index, own)
    row = [dot(multipliers, [told[place] for told in basis[:index + 1]]) for place in range(len(table))]
    return tuple(made), basis[:index] + (tuple(row),) + basis[index + 1:]


def brought(things, index, place):
    """The things, with the one with the index brought forward to the place."""
    return things[:place] + (things[index],) + things[place:index] + things[index + 1:]


def rounded_factors(table, index):
    """Which multiples of the rows ahead bring the row with the index near to 0.

    Its fractions along the rows ahead are rounded, so that at most halves are left.
    """
    block = leading_block(table, index)
    divisor = determinant_of(block)
    tops = image(adjugate(block), table[index][:index])
    return tuple([-((2 * top + divisor) // (2 * divisor)) for top in tops])


def settled(table, basis, index):
    """The table and the basis after the row with the index is brought near to 0.

    The finer search is left out while rounding alone makes the row less than the one ahead,
    as the rows ahead then change anyway.
    """
    factors = rounded_factors(table, index)
    if any([factor != 0 for factor in factors]):
        table, basis = shifted(table, basis, index, factors)
    while table[index][index] >= table[index - 1][index - 1]:
        value, signs = nearest_signs(table, index)
        if value >= table[index][index]:
            break
        table, basis = shifted(table, basis, index, signs)
    return table, basis


def first_above(table, index):
    """The first index at which the diagonal is above its number at this index."""
    place = 0
    while table[place][place] <= table[index][index]:
        place += 1
    return place


def reduced_lattice(table):
    """The reduced table, and the basis whose rows have its values and pairings.

    The rows ahead of the index are always reduced. A row that is less than one of them
    is put among them, and the work goes on from there: this ends, as the first row
    that changes gets a lesser value each time.
    """
    basis = unit_lines(len(table))
    index = 1
    while index < len(table):
        table, basis = settled(table, basis, index)
        if table[index][index] >= table[index - 1][index - 1]:
            index += 1
            continue
        place = first_above(table, index)
        table = brought(tuple([brought(line, index, place) for line in table]), index, place)
        basis = brought(basis, index, place)
        index = max(place, 1)
    return table, basis
