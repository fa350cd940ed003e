"""Bounds of densities by told forms [13.1] to [13.5]."""

from ballgrids.base.lines import adjugate, determinant_of, multiplied
from ballgrids.base.numbers import power, ratio_of
from ballgrids.cone.addresses import is_address
from ballgrids.cone.told import TABLES, copy_with
from ballgrids.cone.walking import place_of
from ballgrids.cone.walls import step_over, told_weights, wall_tables_of
from ballgrids.cone.weighing import FRAME_PLACES
from ballgrids.errors import InvalidOperation
from ballgrids.form.needs import need_form
from ballgrids.short.bases import successive_values
from ballgrids.short.reducing import reduced_lattice
from ballgrids.short.rows import density, least_value

# The greatest density of each size.
GREATEST = {2: (4, 3), 3: (2, 1), 4: (4, 1)}


def told_density(name):
    """The density of a told form; its least value is 2."""
    table = TABLES[name]
    return ratio_of(power(2, len(table)), determinant_of(table))


def last_step(name, matrix, weights):
    """The wall behind which there is a copy of A4 in whose cone a table lies, too, or None; the weights are level.

    If the adjoint lies in the cone of a copy of D4, and in one of a copy of A4, it lies on
    a wall behind which there is a copy of A4 [13.2].
    """
    if name != "D4" or min(weights) > 0:
        return None
    zeros = [[place for place in frame if weights[place] == 0] for frame in FRAME_PLACES]
    walls = [(one, two, three) for one in zeros[0] for two in zeros[1] for three in zeros[2]]
    walls = [wall for wall in walls if step_over(name, wall)[0] == "A4"]
    return min(list(zip(wall_tables_of(name, matrix, walls), walls)))[1] if walls else None


def bound(form):
    """The least density of a told form in the cone of a copy of which the adjoint lies."""
    need_form(form)
    name, matrix, _, weights = place_of(adjugate(form.table))
    return told_density(name if last_step(name, matrix, weights) is None else "A4")


def bound_paper(form):
    """Any bound paper whose told form has the bound as its density."""
    need_form(form)
    table = adjugate(form.table)
    name, matrix, scale, weights = place_of(table)
    wall = last_step(name, matrix, weights)
    if wall is None:
        return (copy_with(name, matrix), scale, weights)
    name, step = step_over(name, wall)
    copy = copy_with(name, multiplied(matrix, step))
    return (copy,) + told_weights(copy, table)


def is_bound_paper(form, value):
    """Whether the value is an address of the adjoint."""
    need_form(form)
    return is_address(form.adjoint, value)


def bound_by(form, paper):
    """The density of the told form of a bound paper, a ratio."""
    if not is_bound_paper(form, paper):
        raise InvalidOperation("the value must be a bound paper of the form")
    return told_density(paper[0].name)


def shortfall(form):
    """By what n D exceeds the product of the least value and the least price of the adjoint, a ratio."""
    need_form(form)
    table = form.table
    _, _, scale, weights = place_of(adjugate(table))
    least = reduced_lattice(table)[0][0][0]
    return ratio_of(len(table) * determinant_of(table) * scale - least * sum(weights), scale)


def is_densest(form):
    """Whether the density is the greatest of the size."""
    return density(form) == GREATEST[form.size]


def dual_product(form):
    """The product of the least values of the form and of its adjoint, divided by the determinant, a ratio."""
    return ratio_of(least_value(form) * least_value(form.adjoint), form.determinant)


def value_product(form):
    """The product of the successive least values, divided by the determinant, a ratio."""
    product = 1
    for value in successive_values(form):
        product = product * value
    return ratio_of(product, form.determinant)
