"""Weights of the adjoint along the least rows, and critical forms [10.1] to [10.7]."""

from ballgrids.base.kinds import is_long_table
from ballgrids.base.lines import adjugate, determinant_of
from ballgrids.base.numbers import divisor_of, power
from ballgrids.form.algebra import entries_of, made_together, value_at
from ballgrids.form.forms import form_with
from ballgrids.form.matrices import need_size
from ballgrids.form.needs import need_form
from ballgrids.short.least import least_of_reduced, shortest
from ballgrids.short.reducing import reduced_lattice
from ballgrids.span.spans import is_perfect
from ballgrids.span.uppers import table_of_uppers
from ballgrids.weight.adjoints import blocking_table, opposing_table, weights_along

# The upper numbers of the critical forms [10.5].
CRITICAL = {
    2: ((1, 0, 1), (2, 1, 2)),
    3: ((1, 0, 0, 1, 0, 1), (2, 0, 0, 2, 1, 2), (3, -1, -1, 3, -1, 3), (4, 2, 1, 4, 2, 4), (2, 1, 1, 2, 1, 2)),
    4: (
        (1, 0, 0, 0, 1, 0, 0, 1, 0, 1), (2, 0, 0, 0, 2, 0, 0, 2, 1, 2), (3, 0, 0, 0, 3, 1, 1, 3, -1, 3),
        (4, -1, 1, 1, 4, 1, 1, 4, -1, 4), (2, 1, 0, 0, 2, 0, 0, 2, 1, 2), (4, 0, 0, 0, 4, 2, 1, 4, -1, 4),
        (6, -1, 1, 1, 6, 2, 2, 6, -2, 6), (2, 0, 0, 0, 2, 1, 1, 2, 0, 2), (6, 0, 0, 3, 4, 2, 1, 4, -1, 4),
        (8, -1, 1, 2, 8, 4, 2, 8, -2, 8), (4, 0, 1, 1, 4, 2, 2, 4, 0, 4), (4, 1, 2, 1, 4, 2, 1, 4, -1, 4),
        (6, 1, 3, 1, 6, 3, 3, 6, 0, 6), (2, 1, 1, 1, 2, 1, 1, 2, 1, 2), (2, 1, 1, 1, 2, 1, 1, 2, 0, 2),
    ),
}
# Their determinants; no two of a size are equal.
DETERMINANTS = {
    2: (1, 3),
    3: (1, 6, 16, 36, 4),
    4: (1, 12, 48, 125, 9, 144, 576, 8, 108, 1728, 96, 81, 432, 5, 4),
}


def weights_of_adjoint(form):
    """The pair of a scale and of the weights of the adjoint along the least rows, or None."""
    need_form(form)
    least, rows = shortest(form.table)
    return weights_along(form.table, least, rows)


def level_number(form):
    """2 if all weights are above 0, 1 if one of them is 0, and 0 if there are none.

    The weights are the same in letters in which the form is reduced, up to their order.
    """
    need_form(form)
    lattice = reduced_lattice(form.table)[0]
    found = weights_along(lattice, lattice[0][0], least_of_reduced(lattice))
    if found is None:
        return 0
    return 1 if 0 in found[1] else 2


def values_at_least(form, value):
    """The values of a table with integers of any length at the least rows of a form; None for any other value."""
    if not is_long_table(form.size, value):
        return None
    return [value_at(value, row) for row in shortest(form.table)[1]]


def opposing(form):
    """Any opposing table, or None if there is none."""
    need_form(form)
    return opposing_table(form.table)


def is_opposing(form, value):
    """Whether the value is an opposing table, with integers of any length."""
    need_form(form)
    values = values_at_least(form, value)
    if values is None or min(values) < 0:
        return False
    return made_together(value, adjugate(form.table)) < 0


def blocking(form):
    """Any blocking table, or None if there is none."""
    need_form(form)
    return blocking_table(form.table)


def is_blocking(form, value):
    """Whether the value is a blocking table, with integers of any length."""
    need_form(form)
    values = values_at_least(form, value)
    if values is None or min(values) < 0 or max(values) == 0:
        return False
    return made_together(value, adjugate(form.table)) <= 0


def is_locally_densest(form):
    """Whether no form near it is as dense; each perfect form has the level number 2 [10.6]."""
    return is_perfect(form)


def critical_forms(size):
    """The tuple of the critical forms of a size."""
    need_size(size)
    return tuple([form_with(table_of_uppers(size, numbers)) for numbers in CRITICAL[size]])


def critical_index(form):
    """The index of the critical form to a multiple of which the form is alike, or None.

    None of the critical forms has a common divisor. So the form without its own one is
    alike to one of them, and their determinants are unlike.
    """
    if level_number(form) == 0:
        return None
    whole = determinant_of(form.table) // power(divisor_of(entries_of(form.table)), form.size)
    return DETERMINANTS[form.size].index(whole)
