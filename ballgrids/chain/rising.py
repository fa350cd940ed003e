"""Raising positive tables along blank ones; nothing is checked here.

A table P is kept at a ratio t, in the place of the table P + t H, as a table of integers:
that of bottom * P + top * H, t being top / bottom.
"""

from ballgrids.base.lines import adjugate, dot, multiplied, turned, unit_lines
from ballgrids.base.numbers import divisor_of, ratio_of
from ballgrids.form.algebra import divided, entries_of, led_by, made_together, scaled, table_sum, undone, value_at
from ballgrids.form.forms import has_positive_minors
from ballgrids.short.reducing import reduced_lattice
from ballgrids.short.search import least_rows_of
from ballgrids.span.uppers import zero_tables


def raised(table, height, ratio):
    """The table of integers for a ratio."""
    return table_sum(scaled(table, ratio[1]), scaled(height, ratio[0]))


def is_positive_at(table, height, ratio):
    """Whether the table is positive at a ratio."""
    return has_positive_minors(raised(table, height, ratio))


def first_powers(table, height):
    """A pair of ratios: at the first one the table is positive, at the second one, its double, it is not.

    The height is below 0 at some row. So the table is not positive at all great ratios.
    """
    top, bottom = 1, 1
    while is_positive_at(table, height, (top, bottom)):
        top = 2 * top
    if top > 1:
        return (top // 2, 1), (top, 1)
    while not is_positive_at(table, height, (top, bottom)):
        bottom = 2 * bottom
    return (1, bottom), (2, bottom)


def nearer(table, height, low, high, steps):
    """The ratios after the room between them was halved some times.

    The table stays positive at the first one, and not positive at the second one.
    """
    for _ in range(steps):
        middle = ratio_of(low[0] * high[1] + high[0] * low[1], 2 * low[1] * high[1])
        if is_positive_at(table, height, middle):
            low = middle
        else:
            high = middle
    return low, high


def ratio_beyond(table, height):
    """A ratio above the greatest t at which the table is still positive.

    There the least value is too little. As the room for such a ratio can be small, more
    and more steps are made between the trials. The table is reduced.
    """
    low, high = first_powers(table, height)
    steps = 1
    while reduced_lattice(raised(table, height, low))[0][0][0] == table[0][0] * low[1]:
        low, high = nearer(table, height, low, high, steps)
        steps = 2 * steps
    return low


def sign_values(table, height):
    """A pair of the values of both tables for each row of -1, 0 and 1, or its opposite."""
    found = [((), 0, 0)]
    for place, line in enumerate(table):
        other = height[place]
        found = [
            (signs + (sign,), value + sign * (sign * line[place] + mixed), lift + sign * (sign * other[place] + pulled))
            for signs, value, lift in found
            for mixed, pulled in [(2 * dot(line, signs), 2 * dot(other, signs))]
            for sign in ((0, 1) if place == 0 else (-1, 0, 1))
        ]
    return [(value, lift) for signs, value, lift in found]


def short_ratio(table, height):
    """The least of the ratios that the rows of -1, 0 and 1 tell, or None; the table is reduced."""
    least, best = table[0][0], None
    for value, lift in sign_values(table, height):
        if lift < 0 and (best is None or (value - least) * best[1] < best[0] * -lift):
            best = (value - least, -lift)
    return best


def first_ratio(table, height):
    """A ratio that is at least the greatest t, and at which the table is positive; the table is reduced.

    Nearly always the shortest rows tell one. Where they do not, it has to be enclosed.
    """
    best = short_ratio(table, height)
    if best is not None and is_positive_at(table, height, best):
        return ratio_of(best[0], best[1])
    return ratio_beyond(table, height)


def ratio_of_reduced(table, height):
    """The greatest t of a table that rises for a reduced one [8.2].

    At a greater ratio a row with too little a value tells a lesser one, at which it has
    the wanted value. That ends, as the rows with such values are finitely many.
    """
    ratio = first_ratio(table, height)
    while True:
        # The first row of the basis has the least value.
        lattice, basis = reduced_lattice(raised(table, height, ratio))
        if lattice[0][0] == table[0][0] * ratio[1]:
            return ratio
        row = basis[0]
        ratio = ratio_of(value_at(table, row) - table[0][0], -value_at(height, row))


def greatest_ratio(table, height):
    """The greatest t of a table that rises, reckoned in letters in which the first table is reduced."""
    lattice, basis = reduced_lattice(table)
    return ratio_of_reduced(lattice, led_by(height, turned(basis)))


def raised_fully(table, height, ratio):
    """The table at the greatest t, without a common divisor."""
    made = raised(table, height, ratio)
    return divided(made, divisor_of(entries_of(made)))


def rises(table, height):
    """Whether a blank table rises [8.1]."""
    return made_together(height, adjugate(table)) <= 0


def turned_up(table, height):
    """The blank table, or its opposite if it does not rise."""
    return height if rises(table, height) else scaled(height, -1)


def chain_tables(table):
    """The tables of a chain that begins with a table without a common divisor.

    Each step is made in letters in which the table is reduced: there the least rows, and
    so the blank tables, have little numbers. The last blank table moves mostly the last
    letters, which brings great and little numbers of the diagonal together.
    """
    made, unit = [table], unit_lines(len(table))
    back = unit
    while True:
        table, basis = reduced_lattice(table)
        base = zero_tables(least_rows_of(table, unit))
        if not base:
            return made
        back = multiplied(undone(turned(basis)), back)
        height = turned_up(table, base[-1])
        table = raised_fully(table, height, ratio_of_reduced(table, height))
        made.append(led_by(table, back))
