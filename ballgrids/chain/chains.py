"""Rises and chains of forms [8.1] to [8.5]."""

from ballgrids.base.kinds import is_long_table
from ballgrids.base.lines import adjugate, determinant_of
from ballgrids.base.numbers import divisor_of
from ballgrids.chain.rising import Rise, chain_tables, raised_fully, rises, rows_lifted, turned_up
from ballgrids.errors import InvalidOperation, InvalidTable
from ballgrids.form.algebra import entries_of, made_together, moved_by
from ballgrids.form.forms import Form, form_with
from ballgrids.form.needs import need_form
from ballgrids.short.least import least_rows_of, shortest
from ballgrids.short.reducing import reduced_lattice
from ballgrids.short.signs import sign_values
from ballgrids.span.uppers import count_of_uppers, zero_tables


def is_rising(form, value):
    """Whether the value is a table, with integers of any length, that rises for the form."""
    need_form(form)
    if not is_long_table(form.size, value):
        return False
    lattice, basis = reduced_lattice(form.table)
    return rises(lattice, moved_by(value, basis))


def rise_of(form, table):
    """The triple of the rise of a form, the table in letters in which the form is reduced, and the basis of these."""
    need_form(form)
    if not is_long_table(form.size, table):
        raise InvalidTable("a table must have as many rows as the size and be symmetric")
    lattice, basis = reduced_lattice(form.table)
    height = moved_by(table, basis)
    if not rises(lattice, height):
        raise InvalidOperation("the table must rise for the form")
    return (Rise(lattice, height, sign_values(lattice, form.size)), height, basis)


def greatest_t(form, table):
    """The greatest t of a table that rises [8.2], a ratio."""
    return rise_of(form, table)[0].ratio


def risen(form, table):
    """The risen form."""
    ratio = rise_of(form, table)[0].ratio
    return form_with(raised_fully(form.table, table, ratio))


def rise_rows(form, table):
    """The ascending tuple of the least rows of the risen form that are none of the form."""
    rise, height, basis = rise_of(form, table)
    return tuple(rows_lifted(rise, height, basis))


def is_rise(form, value):
    """Whether the value is a rise of the form [8.5]."""
    need_form(form)
    if not is_cleared(value) or value.size != form.size:
        return False
    return has_risen(form.table, shortest(form.table), value.table, shortest(value.table))


def is_cleared(value):
    """Whether the value is a form without a common divisor."""
    return isinstance(value, Form) and divisor_of(entries_of(value.table)) == 1


def has_risen(table, ahead, other, behind):
    """Whether a table without a common divisor is that of a rise of a form with the first one.

    For each of them the pair of the least value and the least rows is told, too.
    """
    least, rows = ahead
    other_least, other_rows = behind
    if len(other_rows) <= len(rows) or any([row not in other_rows for row in rows]):
        return False
    made = made_together(other, adjugate(table))
    return least * made <= other_least * len(table) * determinant_of(table)


def each_rise(form):
    """A generator of the forms that are risen by the tables of `blanks`, or by their opposites."""
    need_form(form)
    table = form.table
    lattice, basis = reduced_lattice(table)
    rows = least_rows_of(lattice, basis)
    if len(rows) < count_of_uppers(form.size):
        back, values = adjugate(table), sign_values(lattice, form.size)
        for blank in zero_tables(rows):
            height = turned_up(blank, back)
            ratio = Rise(lattice, moved_by(height, basis), values).ratio
            yield form_with(raised_fully(table, height, ratio))


def chain(form):
    """Any chain of the form."""
    need_form(form)
    return tuple([form_with(table) for table in chain_tables(form.cleared().table)])


def is_chain(form, value):
    """Whether the value is a chain of the form."""
    need_form(form)
    if not isinstance(value, tuple) or len(value) == 0 or value[0] != form.cleared():
        return False
    ahead, known = value[0].table, shortest(value[0].table)
    for behind in value[1:]:
        if not is_cleared(behind) or behind.size != form.size:
            return False
        found = shortest(behind.table)
        if not has_risen(ahead, known, behind.table, found):
            return False
        ahead, known = behind.table, found
    # A perfect form has no rise; so no form ahead of the last one is perfect.
    return len(known[1]) >= count_of_uppers(form.size)
