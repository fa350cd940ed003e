"""Raising positive tables along blank ones; nothing is checked here.

A table P is kept at a ratio t, in the place of the table P + t H, as a table of integers:
that of bottom * P + top * H, t being top / bottom.
"""

from ballgrids.base.lines import adjugate, multiplied, turned, unit_lines
from ballgrids.base.numbers import divisor_of, ratio_of
from ballgrids.form.algebra import (
    divided, entries_of, image, is_positive_table, led_by, made_normal, made_together, opposite_table, undone, value_at)
from ballgrids.short.least import least_of_reduced
from ballgrids.short.reducing import reduced_lattice
from ballgrids.short.signs import sign_values
from ballgrids.span.uppers import count_of_uppers, last_zero_table


def raised(table, height, ratio):
    """The table of integers for a ratio."""
    top, bottom = ratio
    return tuple([
        tuple([bottom * number + top * other for number, other in zip(line, further)])
        for line, further in zip(table, height)
    ])


def is_positive_at(table, height, ratio):
    """Whether the table is positive at a ratio."""
    return is_positive_table(raised(table, height, ratio))


def first_powers(table, height):
    """A pair of ratios: at the first one the table is positive, at the second one, its double, it is not.

    The height is below 0 at some row. So the table is not positive at all great ratios.
    """
    top, bottom = 1, 1
    while is_positive_at(table, height, (top, bottom)):
        top = 2 * top
    if top > 1:
        return (top // 2, 1), (top, 1)
    while not is_positive_at(table, height, (top, bottom)):
        bottom = 2 * bottom
    return (1, bottom), (2, bottom)


def nearer(table, height, low, high, steps):
    """The ratios after the room between them was halved some times.

    The table stays positive at the first one, and not positive at the second one.
    """
    for _ in range(steps):
        middle = ratio_of(low[0] * high[1] + high[0] * low[1], 2 * low[1] * high[1])
        if is_positive_at(table, height, middle):
            low = middle
        else:
            high = middle
    return low, high


def ratio_beyond(table, height):
    """A ratio above the greatest t at which the table is still positive.

    There the least value is too little. As the room for such a ratio can be small, more
    and more steps are made between the trials. The table is reduced.
    """
    low, high = first_powers(table, height)
    steps = 1
    while reduced_lattice(raised(table, height, low))[0][0][0] == table[0][0] * low[1]:
        low, high = nearer(table, height, low, high, steps)
        steps = 2 * steps
    return low


def short_ratio(table, height, values):
    """The least of the ratios that the rows of -1, 0 and 1 tell, or None; the table is reduced."""
    least, best = table[0][0], None
    for value, lift in zip(values, sign_values(height, len(table))):
        if lift < 0 and (best is None or (value - least) * best[1] < best[0] * -lift):
            best = (value - least, -lift)
    return best


def first_ratio(table, height, values):
    """A ratio that is at least the greatest t, and at which the table is positive; the table is reduced.

    Nearly always the shortest rows tell one. Where they do not, it has to be enclosed.
    """
    best = short_ratio(table, height, values)
    if best is not None and is_positive_at(table, height, best):
        return ratio_of(best[0], best[1])
    return ratio_beyond(table, height)


class Rise:
    """The rise of a reduced table along one that rises for it [8.2].

    `ratio` is the greatest t, `whole` the raised table at it, and `lattice` that table
    reduced, with the basis. The values of the first table at the rows of signs are told.
    """

    def __init__(self, table, height, values):
        self.ratio = first_ratio(table, height, values)
        self.whole = raised(table, height, self.ratio)
        self.lattice, self.basis = reduced_lattice(self.whole)
        # At a greater ratio a row with too little a value tells a lesser one, at which it has the
        # wanted value. That ends, as the rows with such values are finitely many.
        while self.lattice[0][0] != table[0][0] * self.ratio[1]:
            row = self.basis[0]
            self.ratio = ratio_of(value_at(table, row) - table[0][0], -value_at(height, row))
            self.whole = raised(table, height, self.ratio)
            self.lattice, self.basis = reduced_lattice(self.whole)


def rows_lifted(rise, height, basis):
    """The ascending list of the least rows that a rise brings about, led by the rows of a basis.

    Those are the least rows of the raised table at which the height is below 0 [8.3].
    """
    inner, outer = turned(rise.basis), turned(basis)
    rows = [image(inner, row) for row in least_of_reduced(rise.lattice)]
    return sorted([made_normal(image(outer, row)) for row in rows if value_at(height, row) < 0])


def without_divisor(table):
    """The table without a common divisor."""
    divisor = divisor_of(entries_of(table))
    return table if divisor == 1 else divided(table, divisor)


def raised_fully(table, height, ratio):
    """The table at the greatest t, without a common divisor."""
    return without_divisor(raised(table, height, ratio))


def rises(table, height):
    """Whether a table rises for a reduced one [8.1]."""
    if not any(entries_of(height)) or any([value_at(height, row) != 0 for row in least_of_reduced(table)]):
        return False
    return made_together(height, adjugate(table)) <= 0


def turned_up(height, back):
    """The blank table, or its opposite if it does not rise; the adjoint is told."""
    return height if made_together(height, back) <= 0 else opposite_table(height)


def chain_tables(table):
    """The tables of a chain that begins with a table without a common divisor.

    Each step is made in letters in which the table is reduced: there the least rows, and
    so the blank tables, have little numbers. The last blank table moves mostly the last
    letters, which brings great and little numbers of the diagonal together.
    """
    made, back = [table], unit_lines(len(table))
    lattice, basis = reduced_lattice(table)
    while True:
        rows = least_of_reduced(lattice)
        if len(rows) >= count_of_uppers(len(table)):
            return made
        back = multiplied(undone(turned(basis)), back)
        height = turned_up(last_zero_table(rows), adjugate(lattice))
        rise = Rise(lattice, height, sign_values(lattice, len(lattice)))
        made.append(led_by(without_divisor(rise.whole), back))
        lattice, basis = without_divisor(rise.lattice), rise.basis
