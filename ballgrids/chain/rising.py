"""Raising positive tables along blank ones; nothing is checked here.

A table P is kept at a ratio t, in the place of the table P + t H, as a table of integers:
that of bottom * P + top * H, t being top / bottom.
"""

from ballgrids.base.lines import adjugate, multiplied, turned, unit_lines
from ballgrids.base.numbers import divisor_of, ratio_of
from ballgrids.form.algebra import (
    divided, entries_of, led_by, made_together, scaled, table_sum, undone, value_at)
from ballgrids.form.forms import has_positive_minors
from ballgrids.short.reducing import reduced_lattice
from ballgrids.short.search import shortest
from ballgrids.span.uppers import zero_tables


def raised(table, height, ratio):
    """The table of integers for a ratio."""
    return table_sum(scaled(table, ratio[1]), scaled(height, ratio[0]))


def is_positive_at(table, height, ratio):
    """Whether the table is positive at a ratio."""
    return has_positive_minors(raised(table, height, ratio))


def first_powers(table, height):
    """A pair of ratios: at the first one the table is positive, at the second one, its double, it is not.

    The height is below 0 at some row. So the table is not positive at all great ratios.
    """
    top, bottom = 1, 1
    while is_positive_at(table, height, (top, bottom)):
        top = 2 * top
    if top > 1:
        return (top // 2, 1), (top, 1)
    while not is_positive_at(table, height, (top, bottom)):
        bottom = 2 * bottom
    return (1, bottom), (2, bottom)


def nearer(table, height, low, high, steps):
    """The ratios after the room between them was halved some times.

    The table stays positive at the first one, and not positive at the second one.
    """
    for _ in range(steps):
        middle = ratio_of(low[0] * high[1] + high[0] * low[1], 2 * low[1] * high[1])
        if is_positive_at(table, height, middle):
            low = middle
        else:
            high = middle
    return low, high


def ratio_beyond(table, height, least):
    """A ratio above the greatest t at which the table is still positive.

    There the least value is too little. As the room for such a ratio can be small, more
    and more steps are made between the trials.
    """
    low, high = first_powers(table, height)
    steps = 1
    while shortest(raised(table, height, low))[0] == least * low[1]:
        low, high = nearer(table, height, low, high, steps)
        steps = 2 * steps
    return low


def greatest_ratio(table, height):
    """The greatest t of a table that rises [8.2].

    At a greater ratio a row with too little a value tells a lesser one, at which it has
    the wanted value. That ends, as the rows with such values are finitely many.
    """
    least = shortest(table)[0]
    ratio = ratio_beyond(table, height, least)
    while True:
        value, rows = shortest(raised(table, height, ratio))
        if value == least * ratio[1]:
            return ratio
        row = rows[0]
        ratio = ratio_of(value_at(table, row) - least, -value_at(height, row))


def raised_fully(table, height):
    """The table at the greatest t, without a common divisor."""
    made = raised(table, height, greatest_ratio(table, height))
    return divided(made, divisor_of(entries_of(made)))


def rises(table, height):
    """Whether a blank table rises [8.1]."""
    return made_together(height, adjugate(table)) <= 0


def turned_up(table, height):
    """The blank table, or its opposite if it does not rise."""
    return height if rises(table, height) else scaled(height, -1)


def chain_tables(table):
    """The tables of a chain that begins with a table without a common divisor.

    Each step is made in letters in which the table is reduced: there the least rows, and
    so the blank tables, have little numbers. The last blank table moves mostly the last
    letters, which brings great and little numbers of the diagonal together.
    """
    made, back = [table], unit_lines(len(table))
    while True:
        table, basis = reduced_lattice(table)
        base = zero_tables(shortest(table)[1])
        if not base:
            return made
        back = multiplied(undone(turned(basis)), back)
        table = raised_fully(table, turned_up(table, base[-1]))
        made.append(led_by(table, back))
