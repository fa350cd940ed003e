"""Told forms and their copies [0.14], [0.15], [6.1], [6.2]."""

from ballgrids.base.kinds import is_long_row
from ballgrids.base.lines import first_other_than_0, multiplied, unit_lines
from ballgrids.errors import InvalidMatrix, UnknownName
from ballgrids.form.algebra import image, led_by, made_normal, undone
from ballgrids.form.forms import Form, form_with
from ballgrids.form.matrices import fits_matrix, need_matrix, need_size

NAMES = ("A2", "A3", "A4", "D4")
TABLES = {
    "A2": ((2, 1), (1, 2)),
    "A3": ((2, 1, 1), (1, 2, 1), (1, 1, 2)),
    "A4": ((2, 1, 1, 1), (1, 2, 1, 1), (1, 1, 2, 1), (1, 1, 1, 2)),
    "D4": ((2, 1, 1, 1), (1, 2, 1, 1), (1, 1, 2, 0), (1, 1, 0, 2)),
}
RAYS = {
    "A2": ((0, 1), (1, -1), (1, 0)),
    "A3": ((0, 0, 1), (0, 1, -1), (0, 1, 0), (1, -1, 0), (1, 0, -1), (1, 0, 0)),
    "A4": (
        (0, 0, 0, 1), (0, 0, 1, -1), (0, 0, 1, 0), (0, 1, -1, 0), (0, 1, 0, -1),
        (0, 1, 0, 0), (1, -1, 0, 0), (1, 0, -1, 0), (1, 0, 0, -1), (1, 0, 0, 0)),
    "D4": (
        (0, 0, 0, 1), (0, 0, 1, 0), (0, 1, -1, -1), (0, 1, -1, 0), (0, 1, 0, -1), (0, 1, 0, 0),
        (1, -1, 0, 0), (1, 0, -1, -1), (1, 0, -1, 0), (1, 0, 0, -1), (1, 0, 0, 0), (1, 1, -1, -1)),
}
FRAMES = (
    ((0, 0, 0, 1), (0, 0, 1, 0), (1, -1, 0, 0), (1, 1, -1, -1)),
    ((0, 1, -1, -1), (0, 1, 0, 0), (1, 0, -1, 0), (1, 0, 0, -1)),
    ((0, 1, -1, 0), (0, 1, 0, -1), (1, 0, -1, -1), (1, 0, 0, 0)),
)
SMALLEST = ((1, 0), (0, 1))
# The told form of each size of which there is a first copy.
FIRST = {2: "A2", 3: "A3", 4: "A4"}


def need_name(name):
    """Raises the error if the value is no name of a told form."""
    if name not in NAMES:
        raise UnknownName(name)


def told_form(name):
    """The told form with a name."""
    need_name(name)
    return Form(TABLES[name])


def rays_of(name):
    """The ascending tuple of the rays of a told form."""
    need_name(name)
    return RAYS[name]


def frames():
    """The three frames of `D4` [6.1]."""
    return FRAMES


def is_row_among(rows, size, value):
    """Whether the value is one of some normal rows, or the opposite of one."""
    if not is_long_row(size, value) or first_other_than_0(value) is None:
        return False
    return made_normal(value) in rows


class Copy:
    """The copy of a told form by a matrix. It never changes."""

    def __init__(self, name, matrix):
        need_name(name)
        if not fits_matrix(len(TABLES[name]), matrix):
            raise InvalidMatrix("the matrix of a copy must have the size of the told form")
        self._name = name
        self._matrix = matrix
        self._rays = led_rays(name, matrix)
        self._rows = tuple(sorted(self._rays))
        self._form = led_form(name, matrix)

    @classmethod
    def first(cls, size):
        """The copy of `A2`, `A3` or `A4` by the matrix with 1 on the diagonal."""
        need_size(size)
        return cls(FIRST[size], unit_lines(size))

    @property
    def name(self):
        """The name of the told form."""
        return self._name

    @property
    def matrix(self):
        """The matrix by which the copy is told."""
        return self._matrix

    @property
    def size(self):
        """The number of letters."""
        return len(self._matrix)

    @property
    def rays(self):
        """The rays, made normal, in the order of the rays of the told form."""
        return self._rays

    @property
    def rows(self):
        """The rays, made normal, ascending."""
        return self._rows

    @property
    def form(self):
        """The form whose value at a led row is that of the told form at the row."""
        return self._form

    def led(self, matrix):
        """The copy whose rays are those of this one, led by a matrix."""
        need_matrix(len(self._matrix), matrix)
        return copy_with(self._name, multiplied(matrix, self._matrix))

    def __eq__(self, other):
        return isinstance(other, Copy) and self._rows == other._rows

    def __contains__(self, value):
        return is_row_among(self._rows, len(self._matrix), value)

    def __len__(self):
        return len(self._rows)

    def __iter__(self):
        return iter(self._rows)

    def __str__(self):
        return f"copy of {self._name}"


def led_rays(name, matrix):
    """The rays of a told form led by a matrix, made normal, in their order."""
    return tuple([made_normal(image(matrix, ray)) for ray in RAYS[name]])


def led_form(name, matrix):
    """The form whose value at a row, led by the matrix, is that of the told form at the row."""
    return form_with(led_by(TABLES[name], undone(matrix)))


def copy_with(name, matrix):
    """The copy by a matrix that is known to be one, whatever the sizes of its integers are."""
    if fits_matrix(len(matrix), matrix):
        return Copy(name, matrix)
    copy = Copy("A2", SMALLEST)
    copy._name = name
    copy._matrix = matrix
    copy._rays = led_rays(name, matrix)
    copy._rows = tuple(sorted(copy._rays))
    copy._form = led_form(name, matrix)
    return copy


def has_ray(name, value):
    """Whether the value is a ray of the told form, or the opposite of one."""
    need_name(name)
    return is_row_among(RAYS[name], len(TABLES[name]), value)
