"""Reduced forms, successive least values and bases [3.1] to [3.4]."""

from ballgrids.base.kinds import is_long_matrix, is_long_square
from ballgrids.base.lines import determinant_of, turned
from ballgrids.errors import InvalidOperation
from ballgrids.form.algebra import led_by, value_at
from ballgrids.form.forms import form_with
from ballgrids.form.matrices import need_size
from ballgrids.form.needs import need_form
from ballgrids.short.reducing import is_reduced_table, reduced_lattice


def diagonal_of(table):
    """The numbers on the diagonal of a table."""
    return tuple([row[index] for index, row in enumerate(table)])


def is_reduced(form):
    """Whether the form is reduced."""
    need_form(form)
    return is_reduced_table(form.table)


def reduced(form):
    """Any pair of a reduced form and a matrix that leads the form to it."""
    need_form(form)
    table, basis = reduced_lattice(form.table)
    return (form_with(table), turned(basis))


def is_reducing(form, value):
    """Whether the value is a matrix that leads the form to a reduced one."""
    need_form(form)
    return is_long_matrix(form.size, value) and is_reduced_table(led_by(form.table, value))


def successive_values(form):
    """The tuple of the successive least values: the diagonal of a reduced form [3.2]."""
    need_form(form)
    return diagonal_of(reduced_lattice(form.table)[0])


def is_successive(form, value):
    """Whether the value is a tuple of independent rows with the successive least values."""
    need_form(form)
    if not is_long_square(form.size, value) or determinant_of(value) == 0:
        return False
    return tuple([value_at(form.table, row) for row in value]) == successive_values(form)


def is_basis(size, value):
    """Whether the value is a tuple of the columns of a matrix."""
    need_size(size)
    return is_long_matrix(size, value)


def least_form(form):
    """The least form of a form in two letters [3.4]."""
    need_form(form)
    if form.size != 2:
        raise InvalidOperation("only forms in two letters have a least form")
    (first, mixed), (_, last) = reduced_lattice(form.table)[0]
    return form_with(((first, abs(mixed)), (abs(mixed), last)))
