"""The rows at which a form has little values [4.1] to [4.3]."""

from ballgrids.base.numbers import power, ratio_of
from ballgrids.errors import TooMany
from ballgrids.form.algebra import is_normal, value_at
from ballgrids.form.matrices import fits_row
from ballgrids.form.needs import need_form, need_forms, need_number
from ballgrids.short.least import shortest
from ballgrids.short.reducing import reduced_lattice
from ballgrids.short.search import Search, led_lines, lines_at, valued_rows

MOST_ROWS = 2000
MOST_VALUE = 200


def least_value(form):
    """The least value at a row that is not all 0."""
    need_form(form)
    return reduced_lattice(form.table)[0][0][0]


def least_rows(form):
    """The ascending tuple of the normal rows with the least value."""
    need_form(form)
    return tuple(shortest(form.table)[1])


def is_least_row(form, value):
    """Whether the value is a normal row with the least value."""
    need_form(form)
    if not fits_row(form.size, value) or not is_normal(value):
        return False
    return value_at(form.table, value) == least_value(form)


def few_lines(form, bound, most):
    """The basis of a reduced form, and the lines of all its rows up to a bound, if there are not too many."""
    lattice, basis = reduced_lattice(form.table)
    search = Search(lattice, bound, most)
    if search.is_over():
        raise TooMany(most)
    return basis, search


def rows_at(form, number, most):
    """The ascending list of the normal rows with a value, if there are not too many up to it."""
    basis, search = few_lines(form, number, most)
    return sorted(led_lines(basis, lines_at(search)))


def counts_up_to(form, bound, most):
    """For each integer from 0 to the bound the number of the normal rows with this value."""
    counts = [0] * (bound + 1)
    for line in few_lines(form, bound, most)[1].lines:
        for value in line.worths():
            counts[value] = counts[value] + 1
    return counts


def rows_up_to(form, bound):
    """The normal rows with values up to the bound, those with lesser values first."""
    need_form(form)
    need_number(bound, 0)
    basis, search = few_lines(form, bound, MOST_ROWS)
    return tuple([row for value, row in valued_rows(basis, search.lines)])


def rows_of_value(form, number):
    """The ascending tuple of the normal rows with this value."""
    need_form(form)
    need_number(number, 0)
    return tuple(rows_at(form, number, MOST_ROWS))


def count_values(form, most):
    """For each integer from 0 to `most` the number of all rows with this value."""
    need_form(form)
    need_number(most, 0, MOST_VALUE)
    counts = counts_up_to(form, most, MOST_ROWS)
    # A normal row stands for its opposite, too; the row of zeros is the only one of its kind.
    return (1,) + tuple([2 * count for count in counts[1:]])


def each_row(form):
    """A generator of all normal rows in the order of `rows_up_to`, without an end."""
    need_form(form)
    lattice, basis = reduced_lattice(form.table)
    done, bound = 0, lattice[0][0]
    while True:
        found = [row for value, row in valued_rows(basis, Search(lattice, bound).lines) if value > done]
        for row in found:
            yield row
        # The bound grows by a part of it: so the rows that are found again stay few.
        done, bound = bound, bound + bound // 4 + 1


def density(form):
    """The density, a ratio."""
    need_form(form)
    return ratio_of(power(least_value(form), form.size), form.determinant)


def is_denser(one, other):
    """Whether the density of the first form is greater than that of the second one."""
    need_forms(one, other)
    first, second = density(one), density(other)
    return first[0] * second[1] > second[0] * first[1]
