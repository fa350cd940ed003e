"""Counts of rows by divisors, and of faces that lie in one another [17.1] to [17.3]."""

from math import isqrt

from ballgrids.base.lines import unit_lines
from ballgrids.cone.told import TABLES
from ballgrids.errors import UnknownName
from ballgrids.face.classes import face_marks, keepers_by_mark, need_mark
from ballgrids.form.forms import Form
from ballgrids.form.matrices import need_size
from ballgrids.form.needs import need_number

COUNTED = ("A2", "D4", "Z2", "Z4")
MAX_COUNTED = 10 ** 6
# What the sum over the divisors is multiplied by.
FACTORS = {"A2": 6, "D4": 24, "Z2": 4, "Z4": 8}
# What a divisor adds, by the remainder that it leaves.
SIGNS = {"A2": (0, 1, -1), "Z2": (0, 1, 0, -1)}
# What a divisor must leave a remainder modulo this number for, to be added itself.
LEFT_OUT = {"D4": 2, "Z4": 4}
# How many faces with each mark up to its own one lie in a face with a mark, both in the order of the marks.
WITHIN = {
    2: ((1,), (3, 1)),
    3: ((1,), (3, 1), (4, 0, 1), (8, 4, 1, 1), (16, 12, 3, 6, 1)),
    4: (
        (1,),
        (3, 1),
        (4, 0, 1),
        (5, 0, 0, 1),
        (8, 4, 1, 0, 1),
        (9, 6, 0, 0, 0, 1),
        (11, 3, 2, 1, 0, 0, 1),
        (12, 0, 6, 0, 0, 0, 0, 1),
        (16, 12, 3, 0, 6, 0, 0, 0, 1),
        (20, 12, 6, 0, 6, 0, 0, 1, 0, 1),
        (21, 14, 4, 1, 4, 1, 2, 0, 0, 0, 1),
        (24, 10, 8, 2, 2, 0, 4, 1, 0, 0, 0, 1),
        (40, 34, 12, 2, 18, 2, 6, 1, 2, 1, 4, 1, 1),
        (45, 32, 16, 4, 12, 2, 12, 2, 0, 0, 4, 4, 0, 1),
        (75, 75, 30, 6, 48, 6, 24, 4, 6, 3, 18, 9, 6, 3, 1),
        (81, 72, 36, 9, 36, 6, 36, 6, 0, 0, 18, 18, 0, 9, 0, 1),
        (125, 150, 60, 12, 120, 15, 60, 10, 20, 10, 60, 30, 30, 15, 10, 0, 1),
        (312, 432, 216, 48, 432, 48, 288, 60, 72, 48, 288, 216, 144, 144, 48, 16, 0, 1),
    ),
}


def need_counted(name):
    """Raises the error if the value is no name of a counted form."""
    if name not in COUNTED:
        raise UnknownName(name)


def counted_form(name):
    """The form by which rows are counted."""
    need_counted(name)
    return Form(TABLES[name] if name in TABLES else unit_lines(2 if name == "Z2" else 4))


def divisors_of(number):
    """All divisors of an integer above 0."""
    low = [divisor for divisor in range(1, isqrt(number) + 1) if number % divisor == 0]
    return low + [number // divisor for divisor in low if divisor * divisor != number]


def added(name, divisor):
    """What a divisor adds to the sum of [17.2]."""
    if name in SIGNS:
        signs = SIGNS[name]
        return signs[divisor % len(signs)]
    return divisor if divisor % LEFT_OUT[name] != 0 else 0


def count_with(name, number):
    """The count of an integer that is not below 0, however great it is."""
    if number == 0:
        return 1
    return FACTORS[name] * sum([added(name, divisor) for divisor in divisors_of(number)])


def count_by_divisors(name, number):
    """The count of an integer from 0 to 10 ** 6."""
    need_counted(name)
    need_number(number, 0, MAX_COUNTED)
    return count_with(name, number)


def each_count(name):
    """An endless generator of the counts of 0, 1, 2 and so on."""
    need_counted(name)
    number = 0
    while True:
        yield count_with(name, number)
        number += 1


def need_marks(size, lower, upper):
    """Raises the error for the first value that is no size, or no mark of it."""
    need_size(size)
    need_mark(size, lower)
    need_mark(size, upper)


def many_within(size, lower, upper):
    """How many faces with a mark lie in a face with another one."""
    marks = face_marks(size)
    line = WITHIN[size][marks.index(upper)]
    place = marks.index(lower)
    return line[place] if place < len(line) else 0


def count_in(size, lower, upper):
    """How many faces with the lower mark lie in each face with the upper one."""
    need_marks(size, lower, upper)
    return many_within(size, lower, upper)


def count_about(size, lower, upper):
    """In how many faces with the upper mark each face with the lower one lies [17.3]."""
    need_marks(size, lower, upper)
    numbers = keepers_by_mark(size)
    return many_within(size, lower, upper) * numbers[lower] // numbers[upper]


def each_above(size, lower):
    """A generator of the marks of all faces in which a face with a mark lies, ascending."""
    need_size(size)
    need_mark(size, lower)
    for upper in face_marks(size):
        if many_within(size, lower, upper) > 0:
            yield upper
