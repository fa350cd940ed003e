"""The classes of alike faces, and the mass of a size [14.3], [14.4]."""

from ballgrids.base.numbers import are_integers, ratio_of
from ballgrids.errors import InvalidOperation
from ballgrids.form.matrices import need_size

# The numbers of the matrices that keep a face, by its mark.
KEEPERS = {
    2: (((2, 1), 8), ((3, 3), 12)),
    3: (((3, 1), 48), ((4, 3), 24), ((4, 4), 48), ((5, 8), 16), ((6, 16), 48)),
    4: (
        ((4, 1), 384), ((5, 3), 96), ((5, 4), 96), ((5, 5), 240), ((6, 8), 32), ((6, 9), 288), ((6, 11), 24),
        ((6, 12), 96), ((7, 16), 96), ((7, 20), 96), ((7, 21), 16), ((7, 24), 16), ((8, 40), 16), ((8, 45), 16),
        ((9, 75), 24), ((9, 81), 144), ((10, 125), 240), ((12, 312), 1152),
    ),
}
# A face of each mark; marks of unlike sizes are unlike. All but two of them are faces of the
# told cones of A2, A3 and A4, and those with the marks (9, 81) and (12, 312) of that of D4.
FACES = {
    (2, 1): ((0, 1), (1, -1)),
    (3, 3): ((0, 1), (1, -1), (1, 0)),
    (3, 1): ((0, 0, 1), (0, 1, -1), (1, -1, 0)),
    (4, 3): ((0, 0, 1), (0, 1, -1), (0, 1, 0), (1, -1, 0)),
    (4, 4): ((0, 0, 1), (0, 1, -1), (1, -1, 0), (1, 0, 0)),
    (5, 8): ((0, 0, 1), (0, 1, -1), (0, 1, 0), (1, -1, 0), (1, 0, -1)),
    (6, 16): ((0, 0, 1), (0, 1, -1), (0, 1, 0), (1, -1, 0), (1, 0, -1), (1, 0, 0)),
    (4, 1): ((0, 0, 0, 1), (0, 0, 1, -1), (0, 1, -1, 0), (1, -1, 0, 0)),
    (5, 3): ((0, 0, 0, 1), (0, 0, 1, -1), (0, 0, 1, 0), (0, 1, -1, 0), (1, -1, 0, 0)),
    (5, 4): ((0, 0, 0, 1), (0, 0, 1, -1), (0, 1, -1, 0), (0, 1, 0, 0), (1, -1, 0, 0)),
    (5, 5): ((0, 0, 0, 1), (0, 0, 1, -1), (0, 1, -1, 0), (1, -1, 0, 0), (1, 0, 0, 0)),
    (6, 8): ((0, 0, 0, 1), (0, 0, 1, -1), (0, 0, 1, 0), (0, 1, -1, 0), (0, 1, 0, -1), (1, -1, 0, 0)),
    (6, 9): ((0, 0, 0, 1), (0, 0, 1, -1), (0, 0, 1, 0), (0, 1, -1, 0), (1, -1, 0, 0), (1, 0, -1, 0)),
    (6, 11): ((0, 0, 0, 1), (0, 0, 1, -1), (0, 0, 1, 0), (0, 1, -1, 0), (1, -1, 0, 0), (1, 0, 0, -1)),
    (6, 12): ((0, 0, 0, 1), (0, 0, 1, -1), (0, 1, -1, 0), (0, 1, 0, 0), (1, -1, 0, 0), (1, 0, 0, -1)),
    (7, 16): ((0, 0, 0, 1), (0, 0, 1, -1), (0, 0, 1, 0), (0, 1, -1, 0), (0, 1, 0, -1), (0, 1, 0, 0), (1, -1, 0, 0)),
    (7, 20): ((0, 0, 0, 1), (0, 0, 1, -1), (0, 0, 1, 0), (0, 1, -1, 0), (0, 1, 0, -1), (1, 0, -1, 0), (1, 0, 0, -1)),
    (7, 21): ((0, 0, 0, 1), (0, 0, 1, -1), (0, 0, 1, 0), (0, 1, -1, 0), (0, 1, 0, -1), (1, -1, 0, 0), (1, 0, -1, 0)),
    (7, 24): ((0, 0, 0, 1), (0, 0, 1, -1), (0, 0, 1, 0), (0, 1, -1, 0), (0, 1, 0, -1), (1, -1, 0, 0), (1, 0, 0, 0)),
    (8, 40): (
        (0, 0, 0, 1), (0, 0, 1, -1), (0, 0, 1, 0), (0, 1, -1, 0), (0, 1, 0, -1), (0, 1, 0, 0), (1, -1, 0, 0),
        (1, 0, -1, 0)),
    (8, 45): (
        (0, 0, 0, 1), (0, 0, 1, -1), (0, 0, 1, 0), (0, 1, -1, 0), (0, 1, 0, -1), (1, -1, 0, 0), (1, 0, -1, 0),
        (1, 0, 0, 0)),
    (9, 75): (
        (0, 0, 0, 1), (0, 0, 1, -1), (0, 0, 1, 0), (0, 1, -1, 0), (0, 1, 0, -1), (0, 1, 0, 0), (1, -1, 0, 0),
        (1, 0, -1, 0), (1, 0, 0, -1)),
    (9, 81): (
        (0, 0, 0, 1), (0, 0, 1, 0), (0, 1, -1, -1), (0, 1, -1, 0), (0, 1, 0, -1), (1, -1, 0, 0), (1, 0, -1, 0),
        (1, 0, 0, -1), (1, 0, 0, 0)),
    (10, 125): (
        (0, 0, 0, 1), (0, 0, 1, -1), (0, 0, 1, 0), (0, 1, -1, 0), (0, 1, 0, -1), (0, 1, 0, 0), (1, -1, 0, 0),
        (1, 0, -1, 0), (1, 0, 0, -1), (1, 0, 0, 0)),
    (12, 312): (
        (0, 0, 0, 1), (0, 0, 1, 0), (0, 1, -1, -1), (0, 1, -1, 0), (0, 1, 0, -1), (0, 1, 0, 0), (1, -1, 0, 0),
        (1, 0, -1, -1), (1, 0, -1, 0), (1, 0, 0, -1), (1, 0, 0, 0), (1, 1, -1, -1)),
}


def is_mark(size, value):
    """Whether the value is a mark of a size."""
    return are_integers(value, 2, 2) and value in [mark for mark, number in KEEPERS[size]]


def need_mark(size, mark):
    """Raises the error if the value is no mark of a size."""
    if not is_mark(size, mark):
        raise InvalidOperation("a mark must be one of the marks of the size")


def face_marks(size):
    """The ascending tuple of all marks of a size."""
    need_size(size)
    return tuple([mark for mark, number in KEEPERS[size]])


def keepers_by_mark(size):
    """The dict from the marks of a size to the numbers of the matrices that keep a face with the mark."""
    need_size(size)
    return {mark: number for mark, number in KEEPERS[size]}


def face_with(size, mark):
    """Any face with a mark."""
    need_size(size)
    need_mark(size, mark)
    return FACES[mark]


def dimension_with(count):
    """The dimension of a face with so many rows: only those of a copy of D4 have squares that depend on each other."""
    return min(count, 10)


def mass(size):
    """The sum of the signed parts that the matrices that keep a face tell of each class, a ratio."""
    top, bottom = 0, 1
    for mark, number in keepers_by_mark(size).items():
        sign = 1 if dimension_with(mark[0]) & 1 else -1
        top, bottom = top * number + sign * bottom, bottom * number
    return ratio_of(top, bottom)
