"""The adjoint of a positive table along its least rows; nothing is checked here.

Tables that show something about the adjoint are looked for in letters in which the
table is reduced, and led back: so they have little numbers.
"""

from ballgrids.base.echelons import mix_of
from ballgrids.base.lines import adjugate, determinant_of, turned, without
from ballgrids.form.algebra import led_by, made_together, scaled, table_sum, undone, value_at
from ballgrids.short.reducing import reduced_lattice
from ballgrids.short.search import shortest
from ballgrids.span.uppers import square_uppers, uppers_of, zero_tables


def only_weights(table, rows):
    """The pair of a scale and of weights of some rows with independent squares that tell the adjoint, or None."""
    return mix_of(tuple([square_uppers(row) for row in rows]), uppers_of(adjugate(table)))


def blank_below(table, rows):
    """A table that is 0 at the rows and makes less than 0 together with the adjoint, or None."""
    back = adjugate(table)
    for height in zero_tables(rows):
        made = made_together(height, back)
        if made != 0:
            return scaled(height, -1) if made > 0 else height
    return None


def opposing_table(table):
    """An opposing table, or None.

    If the least rows have no weights for the adjoint, it is no mix of their squares. So
    some table that is 0 at them makes something other than 0 together with it.
    """
    reduced, basis = reduced_lattice(table)
    height = blank_below(reduced, shortest(reduced)[1])
    return None if height is None else led_by(height, undone(turned(basis)))


def table_at_one(rows, index):
    """A table that is above 0 at the row with the index, and 0 at the other ones; their squares are independent."""
    tables = [height for height in zero_tables(without(rows, index)) if value_at(height, rows[index]) != 0]
    return tables[0] if value_at(tables[0], rows[index]) > 0 else scaled(tables[0], -1)


def blocking_table(table):
    """A blocking table of a table that has no weights, or has one that is 0."""
    reduced, basis = reduced_lattice(table)
    rows = shortest(reduced)[1]
    height = blank_below(reduced, rows)
    if height is not None:
        # So many times this one outweighs the table itself, which is above 0 at all rows.
        whole = len(table) * determinant_of(table)
        many = -(whole // made_together(height, adjugate(reduced)))
        height = table_sum(scaled(height, many), reduced)
    else:
        height = table_at_one(rows, only_weights(reduced, rows)[1].index(0))
    return led_by(height, undone(turned(basis)))
