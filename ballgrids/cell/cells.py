"""Cells of forms: relevant rows, obtuse bases, corners and coverings [16.1] to [16.5]."""

from ballgrids.base.kinds import is_long_row
from ballgrids.base.numbers import ratio_of
from ballgrids.cell.cosets import is_relevant_row, relevant_of
from ballgrids.cell.obtuse import are_obtuse, corners_of, greatest_value, obtuse_rows, weights_between
from ballgrids.errors import InvalidOperation, InvalidRows
from ballgrids.form.needs import need_form


def relevant_rows(form):
    """The ascending tuple of the normal relevant rows."""
    need_form(form)
    return tuple(relevant_of(form.table))


def is_relevant(form, value):
    """Whether the value is a relevant row, normal or not, with integers of any length."""
    need_form(form)
    return is_long_row(form.size, value) and is_relevant_row(form.table, value)


def count_sides(form):
    """The number of the walls of the cell."""
    return 2 * len(relevant_rows(form))


def need_few_letters(form):
    """Raises the error if the value is no form, or one in four letters."""
    need_form(form)
    if form.size == 4:
        raise InvalidOperation("only forms in two and three letters have an obtuse basis")


def obtuse_basis(form):
    """Any obtuse basis."""
    need_few_letters(form)
    return obtuse_rows(form.table)


def is_obtuse_basis(form, value):
    """Whether the value is an obtuse basis of the form, with integers of any length."""
    need_few_letters(form)
    return are_obtuse(form.table, value)


def obtuse_weights(form, basis):
    """The dict from the pairs of indices, the lesser one ahead, to the weights of an obtuse basis."""
    need_few_letters(form)
    if not are_obtuse(form.table, basis):
        raise InvalidRows("the rows must be an obtuse basis of the form")
    return weights_between(form.table, basis)


def corners(form):
    """The ascending tuple of the corners, each one told by a row and its bottom."""
    need_few_letters(form)
    return tuple(corners_of(form.table, form.determinant))


def covering(form):
    """The greatest value at a corner of the cell, a ratio."""
    need_few_letters(form)
    return ratio_of(greatest_value(form.table), 4 * form.determinant)
