"""Weights of the adjoint along the least rows, and critical forms [10.1] to [10.7]."""

from ballgrids.base.kinds import is_long_table
from ballgrids.base.lines import adjugate
from ballgrids.base.numbers import ratio_of
from ballgrids.form.algebra import made_together, value_at
from ballgrids.form.forms import form_with
from ballgrids.form.matrices import need_size
from ballgrids.form.needs import need_form
from ballgrids.short.search import shortest
from ballgrids.span.spans import is_perfect
from ballgrids.span.uppers import table_of_uppers
from ballgrids.weight.adjoints import blocking_table, only_weights, opposing_table

# The upper numbers of the critical forms [10.5].
CRITICAL = {
    2: ((1, 0, 1), (2, 1, 2)),
    3: ((1, 0, 0, 1, 0, 1), (2, 0, 0, 2, 1, 2), (3, -1, -1, 3, -1, 3), (4, 2, 1, 4, 2, 4), (2, 1, 1, 2, 1, 2)),
    4: (
        (1, 0, 0, 0, 1, 0, 0, 1, 0, 1), (2, 0, 0, 0, 2, 0, 0, 2, 1, 2), (3, 0, 0, 0, 3, 1, 1, 3, -1, 3),
        (4, -1, 1, 1, 4, 1, 1, 4, -1, 4), (2, 1, 0, 0, 2, 0, 0, 2, 1, 2), (4, 0, 0, 0, 4, 2, 1, 4, -1, 4),
        (6, -1, 1, 1, 6, 2, 2, 6, -2, 6), (2, 0, 0, 0, 2, 1, 1, 2, 0, 2), (6, 0, 0, 3, 4, 2, 1, 4, -1, 4),
        (8, -1, 1, 2, 8, 4, 2, 8, -2, 8), (4, 0, 1, 1, 4, 2, 2, 4, 0, 4), (4, 1, 2, 1, 4, 2, 1, 4, -1, 4),
        (6, 1, 3, 1, 6, 3, 3, 6, 0, 6), (2, 1, 1, 1, 2, 1, 1, 2, 1, 2), (2, 1, 1, 1, 2, 1, 1, 2, 0, 2),
    ),
}
# No other forms have so many least rows as the multiples of the form of a copy of D4.
MOST_LEAST_ROWS = 12


def weights_of_adjoint(form):
    """The pair of a scale and of the weights of the adjoint along the least rows, or None."""
    need_form(form)
    least, rows = shortest(form.table)
    if len(rows) < MOST_LEAST_ROWS:
        return only_weights(form.table, rows)
    # Keepers of the form lead each of these rows to each other one. So the level weights
    # are equal, and their sum is known [10.3].
    top, bottom = ratio_of(form.size * form.determinant, len(rows) * least)
    return (bottom, (top,) * len(rows))


def level_number(form):
    """2 if all weights are above 0, 1 if one of them is 0, and 0 if there are none."""
    found = weights_of_adjoint(form)
    if found is None:
        return 0
    return 1 if 0 in found[1] else 2


def is_never_below(form, value):
    """Whether the value is a table with integers of any length, and nowhere below 0 at the least rows."""
    if not is_long_table(form.size, value):
        return False
    return all([value_at(value, row) >= 0 for row in shortest(form.table)[1]])


def opposing(form):
    """Any opposing table, or None if there is none."""
    need_form(form)
    return opposing_table(form.table)


def is_opposing(form, value):
    """Whether the value is an opposing table, with integers of any length."""
    need_form(form)
    return is_never_below(form, value) and made_together(value, adjugate(form.table)) < 0


def blocking(form):
    """Any blocking table, or None if there is none."""
    if level_number(form) == 2:
        return None
    return blocking_table(form.table)


def is_blocking(form, value):
    """Whether the value is a blocking table, with integers of any length."""
    need_form(form)
    if not is_never_below(form, value) or made_together(value, adjugate(form.table)) > 0:
        return False
    return any([value_at(value, row) > 0 for row in shortest(form.table)[1]])


def is_locally_densest(form):
    """Whether no form near it is as dense; each perfect form has the level number 2 [10.6]."""
    return is_perfect(form)


def critical_forms(size):
    """The tuple of the critical forms of a size."""
    need_size(size)
    return tuple([form_with(table_of_uppers(size, numbers)) for numbers in CRITICAL[size]])


def critical_index(form):
    """The index of the critical form to a multiple of which the form is alike, or None.

    None of the critical forms has a common divisor. So the form without its own one is
    alike to one of them, and their determinants are unlike.
    """
    if level_number(form) == 0:
        return None
    determinants = [told.determinant for told in critical_forms(form.size)]
    return determinants.index(form.cleared().determinant)
