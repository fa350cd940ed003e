"""The places of forms in the cones of copies [11.1] to [11.4]."""

from ballgrids.base.kinds import is_long_row
from ballgrids.base.numbers import is_whole
from ballgrids.cone.faces import are_faces_alike, face_at
from ballgrids.cone.needs import need_copy
from ballgrids.cone.told import FIRST, Copy, copy_with
from ballgrids.cone.walking import place_of, way_to
from ballgrids.cone.walls import copy_behind, told_weights, wall_between, walls_below, weights_in
from ballgrids.cone.weighing import height_above, wall_lowest
from ballgrids.errors import InvalidOperation
from ballgrids.form.algebra import made_together, table_difference
from ballgrids.form.needs import need_form, need_forms


def address(form):
    """Any address of a form: a copy, a scale and level weights."""
    need_form(form)
    name, matrix, scale, weights = place_of(form.table)
    return (copy_with(name, matrix), scale, weights)


def is_address(form, value):
    """Whether the value is an address of a form."""
    need_form(form)
    if not isinstance(value, tuple) or len(value) != 3:
        return False
    copy, scale, weights = value
    if not isinstance(copy, Copy) or copy.size != form.size or not is_whole(scale):
        return False
    if not is_long_row(len(copy), weights) or min(weights) < 0:
        return False
    return told_weights(copy, form.table) == (scale, weights)


def face_of(form):
    """The triple of the face rows, ascending, the scale, and the weights of these rows."""
    need_form(form)
    return face_at(form.table)


def walk(form):
    """Any walk to a copy in whose cone the table of the form lies."""
    need_form(form)
    return tuple([copy_with(name, matrix) for name, matrix in way_to(form.table)[0]])


def is_going(form, ahead, copy):
    """Whether a copy lies behind a wall of the one ahead whose table makes less than 0 with that of the form.

    The form behind a wall is that of the copy ahead, and the wall table once or twice [9.3].
    """
    if not isinstance(copy, Copy) or copy.size != form.size or wall_between(ahead, copy) is None:
        return False
    return made_together(table_difference(copy.form.table, ahead.form.table), form.table) < 0


def is_walk(form, value):
    """Whether the value is a walk to a copy in whose cone the table of the form lies."""
    need_form(form)
    if not isinstance(value, tuple) or len(value) == 0:
        return False
    first = value[0]
    if not isinstance(first, Copy) or first.name != FIRST[form.size]:
        return False
    for ahead, copy in zip(value, value[1:]):
        # Where such a wall is, the table lies outside of the cone of the copy ahead.
        if not is_going(form, ahead, copy):
            return False
    return min(told_weights(value[-1], form.table)[1]) >= 0


def copies_beside(form, copy):
    """The copies behind those walls of a copy on which the table of the form lies."""
    need_form(form)
    need_copy(copy)
    if copy.size != form.size:
        raise InvalidOperation("the sizes of the form and of the copy must be equal")
    weights = weights_in(copy, form.table)
    if height_above(weights, wall_lowest(copy.name, weights)) < 0:
        raise InvalidOperation("the table must lie in the cone of the copy")
    found = walls_below(copy.name, copy.matrix, weights, 1)
    return tuple([copy_behind(copy, wall) for table, wall in found])


def are_alike_by_faces(one, other):
    """Whether two forms are alike, decided by their face rows, scales and weights [11.4]."""
    need_forms(one, other)
    first, second = face_of(one), face_of(other)
    if first[1] != second[1]:
        return False
    return are_faces_alike(list(zip(first[0], first[2])), list(zip(second[0], second[2])))
