"""Texts of forms, of matrices and of addresses [19.1] to [19.4]."""

from ballgrids.base.digits import written, written_square
from ballgrids.base.numbers import is_whole
from ballgrids.cone.told import RAYS, TABLES, Copy
from ballgrids.errors import InvalidOperation
from ballgrids.form.forms import Form
from ballgrids.form.matrices import need_matrix, size_of
from ballgrids.form.needs import need_form
from ballgrids.text.reader import DIGITS, Reader, whole_square

LONGEST = 60
LONGEST_WEIGHT = 400
TOO_GREAT = (10 ** 50) ** 8


def write_form(form):
    """The text of a form."""
    need_form(form)
    return written_square(form.table, ",")


def read_form(text):
    """The form with a text."""
    return Form(whole_square(text, LONGEST))


def write_matrix(matrix):
    """The text of a matrix of any size."""
    need_matrix(size_of(matrix), matrix)
    return written_square(matrix, ",")


def read_matrix(text):
    """The matrix with a text."""
    matrix = whole_square(text, LONGEST)
    need_matrix(len(matrix), matrix)
    return matrix


def is_count(value, least):
    """Whether the value is an integer from a bound on, with at most 400 digits."""
    return is_whole(value) and least <= value < TOO_GREAT


def is_told_address(value):
    """Whether the value is a triple of a copy, a scale and as many weights as the copy has rays."""
    if not isinstance(value, tuple) or len(value) != 3:
        return False
    copy, scale, weights = value
    if not isinstance(copy, Copy) or not is_count(scale, 1) or not isinstance(weights, tuple):
        return False
    return len(weights) == len(copy) and all([is_count(weight, 0) for weight in weights])


def write_address(address):
    """The text of an address."""
    if not is_told_address(address):
        raise InvalidOperation("an address must be a triple of a copy, a scale and the weights of its rays")
    copy, scale, weights = address
    told = ",".join([written(weight) for weight in weights])
    return " ".join([copy.name, written_square(copy.matrix, ","), written(scale), told])


def read_weights(reader, count):
    """Takes so many weights from a reader."""
    found = [reader.digits(DIGITS, LONGEST_WEIGHT)]
    while len(found) < count:
        reader.take(",")
        found.append(reader.digits(DIGITS, LONGEST_WEIGHT))
    return tuple(found)


def read_address(text):
    """The triple of a copy, a scale and weights that a text tells."""
    reader = Reader(text)
    name = reader.told_name()
    reader.take(" ")
    matrix = reader.square(LONGEST, len(TABLES[name]))
    reader.take(" ")
    scale = reader.digits(DIGITS[1:], LONGEST_WEIGHT)
    reader.take(" ")
    weights = read_weights(reader, len(RAYS[name]))
    reader.finish()
    return (Copy(name, matrix), scale, weights)
