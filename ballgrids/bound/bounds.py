"""Bounds of densities by told forms [13.1] to [13.5]."""

from ballgrids.base.lines import determinant_of
from ballgrids.base.numbers import power, ratio_of
from ballgrids.cone.addresses import address, copies_beside, is_address
from ballgrids.cone.told import TABLES
from ballgrids.cone.walls import told_weights
from ballgrids.errors import InvalidOperation
from ballgrids.form.needs import need_form
from ballgrids.price.prices import least_price
from ballgrids.short.bases import successive_values
from ballgrids.short.rows import density, least_value

# The greatest density of each size.
GREATEST = {2: (4, 3), 3: (2, 1), 4: (4, 1)}


def told_density(name):
    """The density of a told form; its least value is 2."""
    table = TABLES[name]
    return ratio_of(power(2, len(table)), determinant_of(table))


def bound(form):
    """The least density of a told form in the cone of a copy of which the adjoint lies."""
    return told_density(bound_paper(form)[0].name)


def bound_paper(form):
    """Any bound paper whose told form has the bound as its density.

    If the adjoint lies in the cone of a copy of D4, and in one of a copy of A4, it lies on
    a wall behind which there is a copy of A4 [13.2].
    """
    need_form(form)
    back = form.adjoint
    place = address(back)
    if place[0].name != "D4":
        return place
    for copy in copies_beside(back, place[0]):
        if copy.name == "A4":
            return (copy,) + told_weights(copy, back.table)
    return place


def is_bound_paper(form, value):
    """Whether the value is an address of the adjoint."""
    need_form(form)
    return is_address(form.adjoint, value)


def bound_by(form, paper):
    """The density of the told form of a bound paper, a ratio."""
    if not is_bound_paper(form, paper):
        raise InvalidOperation("the value must be a bound paper of the form")
    return told_density(paper[0].name)


def shortfall(form):
    """By what n D exceeds the product of the least value and the least price of the adjoint, a ratio."""
    need_form(form)
    top, bottom = least_price(form.adjoint)
    return ratio_of(form.size * form.determinant * bottom - least_value(form) * top, bottom)


def is_densest(form):
    """Whether the density is the greatest of the size."""
    return density(form) == GREATEST[form.size]


def dual_product(form):
    """The product of the least values of the form and of its adjoint, divided by the determinant, a ratio."""
    return ratio_of(least_value(form) * least_value(form.adjoint), form.determinant)


def value_product(form):
    """The product of the successive least values, divided by the determinant, a ratio."""
    product = 1
    for value in successive_values(form):
        product = product * value
    return ratio_of(product, form.determinant)
