"""Faces of cones, the matrices between them, and the faces of a copy [14.1] to [14.3]."""

from ballgrids.alike.fitting import matrices_of_tables
from ballgrids.base.kinds import is_long_matrix
from ballgrids.base.lines import determinant_of, turned
from ballgrids.cone.faces import face_at
from ballgrids.cone.needs import need_copy
from ballgrids.errors import InvalidRows
from ballgrids.face.choosing import face_choices
from ballgrids.face.classes import dimension_with, is_mark
from ballgrids.form.algebra import image, is_normal, made_normal, squares_sum
from ballgrids.form.matrices import fits_row, need_size
from ballgrids.form.needs import need_number

MOST_FACE_ROWS = 12


def are_ascending_rows(size, value):
    """Whether the value is an ascending tuple of normal rows, as many as a face can have."""
    if not isinstance(value, tuple) or not size <= len(value) <= MOST_FACE_ROWS:
        return False
    if not all([fits_row(size, row) and is_normal(row) for row in value]):
        return False
    return all([row < behind for row, behind in zip(value, value[1:])])


def table_with(rows):
    """The sum of the squares of some rows."""
    return squares_sum(rows, (1,) * len(rows))


def mark_with(rows, table):
    """The mark of a face, whose table is told.

    The determinant of the table is the sum of the squares of the determinants of all
    choices of n rows. These are 1, -1 or 0, but for the three frames of a copy of D4.
    """
    determinant = determinant_of(table)
    return (len(rows), determinant if len(rows) < MOST_FACE_ROWS else determinant - 12)


def known_mark(size, value):
    """The mark of a face of a size, or None if the value is none.

    By [0.18] rows are a face exactly if they are the face rows of the sum of their squares.
    """
    if not are_ascending_rows(size, value):
        return None
    table = table_with(value)
    mark = mark_with(value, table)
    if not is_mark(size, mark) or face_at(table)[0] != value:
        return None
    return mark


def mark_needed(size, rows):
    """The mark of a face; raises the error if the value is none."""
    mark = known_mark(size, rows)
    if mark is None:
        raise InvalidRows("the rows must be a face of the size")
    return mark


def is_face(size, value):
    """Whether the value is a face of the size, with integers of at most sixty digits."""
    need_size(size)
    return known_mark(size, value) is not None


def mark_of(size, rows):
    """The mark of a face."""
    need_size(size)
    return mark_needed(size, rows)


def dimension_of(size, rows):
    """The dimension of a face."""
    return dimension_with(mark_of(size, rows)[0])


def face_table(size, rows):
    """The table of a face in which each weight is 1."""
    need_size(size)
    mark_needed(size, rows)
    return table_with(rows)


def are_alike_faces(size, one, other):
    """Whether two faces are alike: whether they have the same mark [14.3]."""
    need_size(size)
    return mark_needed(size, one) == mark_needed(size, other)


def face_matrices(one, other, most=None):
    """The matrices that lead a face to another one, at most so many.

    A matrix does so exactly if it moves the sum of the squares of the one to that of the
    other, whose face rows tell the faces. A table moved by a matrix is led by that with
    rows and columns exchanged.
    """
    return [turned(matrix) for matrix in matrices_of_tables(table_with(one), table_with(other), most)]


def face_matrix(size, one, other):
    """Any matrix that leads the first face to the second one, or None."""
    if not are_alike_faces(size, one, other):
        return None
    return face_matrices(one, other, 1)[0]


def is_face_matrix(size, one, other, value):
    """Whether the value is a matrix, with integers of any length, that leads the first face to the second one."""
    need_size(size)
    mark_needed(size, one)
    mark_needed(size, other)
    if len(one) != len(other) or not is_long_matrix(size, value):
        return False
    return tuple(sorted([made_normal(image(value, row)) for row in one])) == other


def face_keepers(size, rows):
    """The ascending tuple of all matrices that keep a face."""
    need_size(size)
    mark_needed(size, rows)
    return tuple(sorted(face_matrices(rows, rows)))


def each_face(copy, many):
    """A generator of the faces with so many rows that lie in a copy, ascending."""
    need_copy(copy)
    need_number(many, 1, MOST_FACE_ROWS)
    rays = copy.rays
    order = [place for ray, place in sorted(list(zip(rays, range(len(rays)))))]
    for places in face_choices(copy.name, order, many):
        yield tuple([rays[place] for place in places])
