"""Forms that matrices take to one another, and symmetries of forms [5.1] to [5.6]."""

from ballgrids.alike.fitting import columns_of_reduced, matrices_of_tables
from ballgrids.base.kinds import is_long_matrix
from ballgrids.base.lines import determinant_of, dot, multiplied, unit_lines
from ballgrids.base.numbers import divisor_of, is_whole, ratio_of
from ballgrids.errors import InvalidOperation
from ballgrids.form.algebra import led_by, made_normal, scaled
from ballgrids.form.forms import Form
from ballgrids.form.matrices import need_matrix
from ballgrids.form.needs import need_form, need_forms, need_number
from ballgrids.short.reducing import reduced_lattice
from ballgrids.short.rows import counts_up_to, rows_at

MOST_COUNTED = 200
MOST_ROWS = 2000
MOST_FORMS = 30


def matrices_between(one, other):
    """The ascending tuple of all matrices that take the first form to the second one."""
    need_forms(one, other)
    return tuple(sorted(matrices_of_tables(one.table, other.table)))


def matrix_between(one, other):
    """Any matrix that takes the first form to the second one, or None."""
    need_forms(one, other)
    found = matrices_of_tables(one.table, other.table, 1)
    return found[0] if found else None


def is_between(one, other, value):
    """Whether the value is a matrix that takes the first form to the second one."""
    need_forms(one, other)
    return is_long_matrix(one.size, value) and led_by(one.table, value) == other.table


def are_alike(one, other):
    """Whether some matrix takes the first form to the second one."""
    return matrix_between(one, other) is not None


def has_turning(matrices):
    """Whether one of some matrices is turning."""
    for matrix in matrices:
        if determinant_of(matrix) == 1:
            return True
    return False


def are_turned_alike(one, other):
    """Whether some turning matrix takes the first form to the second one [5.4]."""
    need_forms(one, other)
    if one.size == 3:
        return are_alike(one, other)
    return has_turning(matrices_of_tables(one.table, other.table))


def keepers(form):
    """The ascending tuple of the matrices that take the form to itself."""
    return matrices_between(form, form)


def count_keepers(form):
    """The number of the keepers; it is the same for a reduced form that is alike."""
    need_form(form)
    table = reduced_lattice(form.table)[0]
    return len(columns_of_reduced(table, table))


def keeper_order(form, matrix):
    """The least number of equal factors that make the unit matrix of a keeper."""
    need_form(form)
    need_matrix(form.size, matrix)
    if led_by(form.table, matrix) != form.table:
        raise InvalidOperation("the matrix must be a keeper of the form")
    made, order = matrix, 1
    while made != unit_lines(form.size):
        made = multiplied(made, matrix)
        order += 1
    return order


def multiple_between(one, other):
    """Any triple that makes the second form of a multiple of the first one, or None.

    Forms that are alike have the same content, so the contents alone tell the ratio.
    """
    need_forms(one, other)
    matrix = matrix_between(one.cleared(), other.cleared())
    if matrix is None:
        return None
    return ratio_of(one.content, other.content) + (matrix,)


def is_multiple_between(one, other, value):
    """Whether the value is a triple as `multiple_between` tells it, with integers of any length."""
    need_forms(one, other)
    if not isinstance(value, tuple) or len(value) != 3:
        return False
    top, bottom, matrix = value
    if not is_whole(top) or not is_whole(bottom) or not is_long_matrix(one.size, matrix):
        return False
    if top < 1 or bottom < 1 or divisor_of((top, bottom)) != 1:
        return False
    return scaled(led_by(one.table, matrix), bottom) == scaled(other.table, top)


def kind_of_row(row, matrices):
    """The ascending tuple of the normal rows to which the matrices lead a row."""
    lines = {line: True for matrix in matrices for line in matrix}
    numbers = {line: dot(line, row) for line in lines}
    led = {tuple([numbers[line] for line in matrix]): True for matrix in matrices}
    kind = {made_normal(told): True for told in led}
    return tuple(sorted(list(kind)))


def row_kinds(form, number):
    """The normal rows with a value, parted into kinds [5.5]."""
    need_form(form)
    need_number(number, 1)
    rows = rows_at(form, number, MOST_ROWS)
    matrices = matrices_of_tables(form.table, form.table) if rows else []
    seen = {}
    kinds = []
    for row in rows:
        if row not in seen:
            kind = kind_of_row(row, matrices)
            kinds.append(kind)
            for member in kind:
                seen[member] = True
    return tuple(kinds)


def first_unlike(one, other, most):
    """The least value up to `most` that the forms have at unlike numbers of normal rows, or None."""
    need_forms(one, other)
    need_number(most, 1, MOST_COUNTED)
    first = counts_up_to(one, most, MOST_ROWS)
    second = counts_up_to(other, most, MOST_ROWS)
    for value in range(1, most + 1):
        if first[value] != second[value]:
            return value
    return None


def are_forms(value):
    """Whether the value is a tuple of 1 to 30 forms."""
    if not isinstance(value, tuple) or not 1 <= len(value) <= MOST_FORMS:
        return False
    return all([isinstance(form, Form) for form in value])


def part_with(parts, tables, table):
    """The index of the part whose forms are alike to one, or None; all tables are reduced."""
    for place, part in enumerate(parts):
        told = tables[part[0]]
        if len(told) == len(table) and columns_of_reduced(told, table, 1):
            return place
    return None


def alike_parts(forms):
    """The indices of some forms, parted by what is alike."""
    if not are_forms(forms):
        raise InvalidOperation("the forms must be a tuple of 1 to 30 objects of Form")
    tables = [reduced_lattice(form.table)[0] for form in forms]
    parts = []
    for index, table in enumerate(tables):
        place = part_with(parts, tables, table)
        if place is None:
            parts.append([index])
        else:
            parts[place].append(index)
    return tuple([tuple(part) for part in parts])
