"""Prices of forms [12.1] to [12.6]."""

from ballgrids.base.kinds import is_long_table
from ballgrids.base.numbers import is_whole, ratio_of
from ballgrids.cone.faces import face_along
from ballgrids.cone.needs import need_copy
from ballgrids.cone.told import TABLES
from ballgrids.cone.walking import place_of
from ballgrids.cone.walls import told_weights
from ballgrids.errors import InvalidOperation
from ballgrids.form.algebra import led_by, undone
from ballgrids.form.matrices import need_size, need_table
from ballgrids.form.needs import need_form, need_number
from ballgrids.price.writings import is_dear, price_with, sum_with, writes


def is_price_table(size, table, bottom):
    """Whether the values of the table at all rows that are not all 0 are at least the bottom."""
    need_size(size)
    need_table(size, table)
    need_number(bottom, 1)
    return is_dear(table, bottom)


def need_price(form, table, bottom):
    """Raises the error for the first wrong one of the arguments."""
    need_form(form)
    need_table(form.size, table)
    need_number(bottom, 1)


def price_of(form, table, bottom):
    """The price of a form by a price table, a ratio."""
    need_price(form, table, bottom)
    if not is_dear(table, bottom):
        raise InvalidOperation("the table and the bottom must be a price table")
    return price_with(form.table, table, bottom)


def is_writing(form, value):
    """Whether the value is a writing of the form, with integers of any length."""
    need_form(form)
    if not isinstance(value, tuple) or len(value) != 3:
        return False
    rows, weights, scale = value
    return writes(form.table, rows, weights, scale)


def sum_of_writing(form, writing):
    """The sum of a writing of the form, a ratio."""
    if not is_writing(form, writing):
        raise InvalidOperation("the value must be a writing of the form")
    return sum_with(writing[1], writing[2])


def least_price(form):
    """The least price, a ratio: the sum of the writing by the face rows [0.20]."""
    need_form(form)
    _, _, scale, weights = place_of(form.table)
    return sum_with(weights, scale)


def price_paper(form):
    """Any tuple of a price table, its bottom, and the parts of a writing, whose price and sum are equal."""
    need_form(form)
    name, matrix, scale, weights = place_of(form.table)
    rows, told = face_along(name, matrix, weights)
    return (led_by(TABLES[name], undone(matrix)), 2, rows, told, scale)


def is_price_paper(form, value):
    """Whether the value is such a tuple, with integers of any length."""
    need_form(form)
    if not isinstance(value, tuple) or len(value) != 5:
        return False
    table, bottom, rows, weights, scale = value
    if not is_long_table(form.size, table) or not is_whole(bottom) or bottom < 1:
        return False
    if not is_dear(table, bottom) or not writes(form.table, rows, weights, scale):
        return False
    return price_with(form.table, table, bottom) == sum_with(weights, scale)


def need_copy_and_form(copy, form):
    """Raises the error for the first wrong one of the arguments, or for unlike sizes."""
    need_copy(copy)
    need_form(form)
    if copy.size != form.size:
        raise InvalidOperation("the sizes of the copy and of the form must be equal")


def price_at(copy, form):
    """The price by the form of a copy and the bottom 2, a ratio."""
    need_copy_and_form(copy, form)
    return price_with(form.table, copy.form.table, 2)


def is_cheapest(copy, form):
    """Whether the price by the copy is the least price: whether the table lies in its cone [12.4]."""
    need_copy_and_form(copy, form)
    return min(told_weights(copy, form.table)[1]) >= 0


def price_excess(form, table, bottom, writing):
    """The ratio by which the price by a price table exceeds the sum of a writing."""
    need_price(form, table, bottom)
    if not is_dear(table, bottom) or not is_writing(form, writing):
        raise InvalidOperation("there must be a price table and a writing of the form")
    price, told = price_with(form.table, table, bottom), sum_with(writing[1], writing[2])
    return ratio_of(price[0] * told[1] - told[0] * price[1], price[1] * told[1])
