"""Reducing a positive table of integers of any length; nothing is checked here.

A lattice is kept as its table and the rows of its basis, told in the letters of the
table that is to be reduced.
"""

from ballgrids.base.lines import adjugate, dot, leading_block, unit_lines
from ballgrids.form.algebra import image
from ballgrids.short.signs import SIGN_ROWS, doubled_pairings, sign_values, with_letter


def first_unreduced(table):
    """The first index at which a positive table is not reduced [3.1], or its size."""
    values = [table[0][0]]
    for index in range(1, len(table)):
        own = table[index][index]
        if own < table[index - 1][index - 1]:
            return index
        pairings = doubled_pairings(table, index)
        # No row of signs of the letters ahead makes the value less, be it added or taken away.
        if any([told > value or -told > value for value, told in zip(values, pairings)]):
            return index
        if index + 1 < len(table):
            values = with_letter(values, pairings, own)
    return len(table)


def is_reduced_table(table):
    """Whether a positive table is reduced."""
    return first_unreduced(table) == len(table)


def nearest_signs(table, index, values):
    """The row of -1, 0 and 1 of the letters ahead that, added to the row with the index, makes its value least.

    It is None if the value does not become less. The values at such rows ahead are told.
    """
    pairings = doubled_pairings(table, index)
    changes = [value - abs(told) for value, told in zip(values, pairings)]
    least = min(changes)
    if least >= 0:
        return None
    at = changes.index(least)
    signs = SIGN_ROWS[len(table)][at][:index]
    return signs if pairings[at] < 0 else tuple([-sign for sign in signs])


def with_entry(line, index, number):
    """The line with another number at the index."""
    return line[:index] + (number,) + line[index + 1:]


def shifted(table, basis, index, factors):
    """The table and the basis after multiples of the rows ahead are added to the row with the index."""
    line, row = table[index], basis[index]
    for factor, other, told in zip(factors, table, basis):
        if factor != 0:
            line = tuple([number + factor * further for number, further in zip(line, other)])
            row = tuple([number + factor * further for number, further in zip(row, told)])
    made = [with_entry(ahead, index, number) for ahead, number in zip(table, line)]
    made[index] = with_entry(line, index, line[index] + dot(factors, line))
    return tuple(made), with_entry(basis, index, row)


def brought(things, index, place):
    """The things, with the one with the index brought forward to the place."""
    return things[:place] + (things[index],) + things[place:index] + things[index + 1:]


def rounded_factors(table, index):
    """Which multiples of the rows ahead bring the row with the index near to 0.

    Its fractions along the rows ahead are rounded, so that at most halves are left.
    """
    block = leading_block(table, index)
    back = adjugate(block)
    divisor = dot(block[0], back[0])
    return tuple([-((2 * top + divisor) // (2 * divisor)) for top in image(back, table[index][:index])])


def settled(table, basis, index):
    """The table and the basis after the row with the index is brought near to 0.

    Where one row of signs does not do, multiples of the rows ahead can be needed. All of that
    is left out once the row is less than the one ahead, as the rows ahead then change anyway.
    """
    values = sign_values(table, index)
    signs, steps = nearest_signs(table, index, values), 0
    while signs is not None:
        factors = rounded_factors(table, index) if steps == 1 else signs
        table, basis = shifted(table, basis, index, factors if any(factors) else signs)
        if table[index][index] < table[index - 1][index - 1]:
            break
        signs = nearest_signs(table, index, values)
        steps += 1
    return table, basis


def first_above(table, index):
    """The first index at which the diagonal is above its number at this index."""
    place = 0
    while table[place][place] <= table[index][index]:
        place += 1
    return place


def reduced_lattice(table):
    """The reduced table, and the basis whose rows have its values and pairings.

    The rows ahead of the index are always reduced. A row that is less than one of them
    is put among them, and the work goes on from there: this ends, as the first row
    that changes gets a lesser value each time.
    """
    basis, index = unit_lines(len(table)), first_unreduced(table)
    while index < len(table):
        table, basis = settled(table, basis, index)
        if table[index][index] >= table[index - 1][index - 1]:
            index += 1
            continue
        place = first_above(table, index)
        table = brought(tuple([brought(line, index, place) for line in table]), index, place)
        basis = brought(basis, index, place)
        index = max(place, 1)
    return table, basis
