"""The adjoint of a positive table along its least rows; nothing is checked here.

Tables that show something about the adjoint are looked for in letters in which the
table is reduced, and led back: so they have little numbers.
"""

from ballgrids.base.echelons import mix_of
from ballgrids.base.lines import adjugate, determinant_of, turned, without
from ballgrids.base.numbers import ratio_of
from ballgrids.form.algebra import led_by, made_together, opposite_table, scaled, table_sum, undone, value_at
from ballgrids.short.least import least_of_reduced
from ballgrids.short.reducing import reduced_lattice
from ballgrids.span.uppers import square_uppers, uppers_of, zero_tables

# No other forms have so many least rows as the multiples of the form of a copy of D4.
MOST_LEAST_ROWS = 12


def weights_along(table, least, rows):
    """The pair of a scale and of the weights of the least rows that tell the adjoint, or None.

    The squares of the rows are independent, but for the forms of copies of D4. Keepers of such
    a form lead each of the rows to each other one. So their level weights are equal, and the
    sum of these is known [10.3].
    """
    if len(rows) < MOST_LEAST_ROWS:
        return mix_of(tuple([square_uppers(row) for row in rows]), uppers_of(adjugate(table)))
    top, bottom = ratio_of(len(table) * determinant_of(table), len(rows) * least)
    return (bottom, (top,) * len(rows))


def blank_below(table, rows):
    """A table that is 0 at the rows and makes less than 0 together with the adjoint, or None."""
    back = adjugate(table)
    for height in zero_tables(rows):
        made = made_together(height, back)
        if made != 0:
            return opposite_table(height) if made > 0 else height
    return None


def led_back(height, basis):
    """A table in the letters of a reduced one, told in the letters of the table that was reduced."""
    return led_by(height, undone(turned(basis)))


def opposing_table(table):
    """An opposing table, or None.

    If the least rows have no weights for the adjoint, it is no mix of their squares. So
    some table that is 0 at them makes something other than 0 together with it.
    """
    lattice, basis = reduced_lattice(table)
    height = blank_below(lattice, least_of_reduced(lattice))
    return None if height is None else led_back(height, basis)


def table_at_one(rows, index):
    """A table that is above 0 at the row with the index, and 0 at the other ones; their squares are independent."""
    tables = [height for height in zero_tables(without(rows, index)) if value_at(height, rows[index]) != 0]
    return tables[0] if value_at(tables[0], rows[index]) > 0 else opposite_table(tables[0])


def blocking_table(table):
    """A blocking table, or None; there is none if there are weights, and all of them are above 0."""
    lattice, basis = reduced_lattice(table)
    rows = sorted(least_of_reduced(lattice))
    found = weights_along(lattice, lattice[0][0], rows)
    if found is None:
        height = blank_below(lattice, rows)
        # So many times this one outweighs the table itself, which is above 0 at all rows.
        whole = len(table) * determinant_of(table)
        many = -(whole // made_together(height, adjugate(lattice)))
        return led_back(table_sum(scaled(height, many), lattice), basis)
    weights = found[1]
    return led_back(table_at_one(rows, weights.index(0)), basis) if 0 in weights else None
