"""Rises and chains of forms [8.1] to [8.5]."""

from ballgrids.base.kinds import is_long_table
from ballgrids.base.lines import turned
from ballgrids.chain.rising import chain_tables, greatest_ratio, raised_fully, ratio_of_reduced, rises, turned_up
from ballgrids.errors import InvalidOperation, InvalidTable
from ballgrids.form.algebra import led_by, made_together
from ballgrids.form.forms import Form, form_with
from ballgrids.form.needs import need_form
from ballgrids.short.reducing import reduced_lattice
from ballgrids.short.search import shortest
from ballgrids.span.spans import blanks, is_blank
from ballgrids.span.uppers import count_of_uppers, rank_of_squares_of


def is_rising(form, value):
    """Whether the value is a table, with integers of any length, that rises for the form."""
    return is_blank(form, value) and rises(form.table, value)


def need_rising(form, table):
    """Raises the error if the value is no table that rises for the form."""
    need_form(form)
    if not is_long_table(form.size, table):
        raise InvalidTable("a table must have as many rows as the size and be symmetric")
    if not is_rising(form, table):
        raise InvalidOperation("the table must rise for the form")


def greatest_t(form, table):
    """The greatest t of a table that rises [8.2], a ratio."""
    need_rising(form, table)
    return greatest_ratio(form.table, table)


def risen(form, table):
    """The risen form."""
    need_rising(form, table)
    return form_with(raised_fully(form.table, table, greatest_ratio(form.table, table)))


def rise_rows(form, table):
    """The ascending tuple of the least rows of the risen form that are none of the form."""
    made = risen(form, table)
    known = shortest(form.table)[1]
    return tuple([row for row in shortest(made.table)[1] if row not in known])


def is_rise(form, value):
    """Whether the value is a rise of the form [8.5]."""
    need_form(form)
    if not is_cleared(value):
        return False
    return has_risen(form, shortest(form.table), value, shortest(value.table))


def is_cleared(value):
    """Whether the value is a form without a common divisor."""
    return isinstance(value, Form) and value.content == 1


def has_risen(form, ahead, value, behind):
    """Whether a form without a common divisor is a rise of another one.

    For each of them the pair of the least value and the least rows is told, too. Forms of
    unlike sizes have no rows in common.
    """
    least, rows = ahead
    value_least, value_rows = behind
    if len(value_rows) <= len(rows) or any([row not in value_rows for row in rows]):
        return False
    made = made_together(value.table, form.adjoint.table)
    return least * made <= value_least * form.size * form.determinant


def each_rise(form):
    """A generator of the forms that are risen by the tables of `blanks`, or by their opposites."""
    tables = blanks(form)
    lattice, basis = reduced_lattice(form.table)
    for table in tables:
        height = turned_up(form.table, table)
        ratio = ratio_of_reduced(lattice, led_by(height, turned(basis)))
        yield form_with(raised_fully(form.table, height, ratio))


def chain(form):
    """Any chain of the form."""
    need_form(form)
    return tuple([form_with(table) for table in chain_tables(form.cleared().table)])


def is_chain(form, value):
    """Whether the value is a chain of the form."""
    need_form(form)
    if not isinstance(value, tuple) or len(value) == 0 or value[0] != form.cleared():
        return False
    ahead, known = value[0], shortest(value[0].table)
    for behind in value[1:]:
        if not is_cleared(behind):
            return False
        found = shortest(behind.table)
        if not has_risen(ahead, known, behind, found):
            return False
        ahead, known = behind, found
    # A perfect form has no rise; so no form ahead of the last one is perfect.
    return rank_of_squares_of(known[1]) == count_of_uppers(form.size)
