"""Promises about forms, and papers against them [18.1], [18.2]."""

from ballgrids.base.kinds import is_long_row
from ballgrids.base.lines import first_other_than_0
from ballgrids.base.numbers import is_integer, is_ratio, power
from ballgrids.cone.told import NAMES, RAYS, TABLES
from ballgrids.errors import InvalidPromise
from ballgrids.form.algebra import value_at
from ballgrids.form.matrices import need_size
from ballgrids.form.needs import need_form
from ballgrids.short.least import shortest
from ballgrids.span.spans import is_blank
from ballgrids.span.uppers import count_of_uppers, zero_tables

MOST_CONTACTS = 12


def is_promised_number(value, most):
    """Whether the value is an integer of at least 1, and of at most so much, if that is told."""
    return is_integer(value) and value >= 1 and (most is None or value <= most)


def fits_promise(size, value):
    """Whether the value is a promise of the size."""
    if not isinstance(value, tuple) or len(value) == 0:
        return False
    word, rest = value[0], value[1:]
    if word == "perfect":
        return len(rest) == 0
    if word == "density":
        return is_ratio(rest) and rest[0] >= 1
    if len(rest) != 1:
        return False
    if word == "least":
        return is_promised_number(rest[0], None)
    if word == "contacts":
        return is_promised_number(rest[0], MOST_CONTACTS)
    return word == "alike" and rest[0] in NAMES and len(TABLES[rest[0]]) == size


def is_promise(size, value):
    """Whether the value is a promise of the size."""
    need_size(size)
    return fits_promise(size, value)


def need_promise(form, promise):
    """Raises the error for the first value that is no form, or no promise of its size."""
    need_form(form)
    if not fits_promise(form.size, promise):
        raise InvalidPromise("a promise must be one of the tuples that are told, for the size of the form")


def is_too_little(form, promise, value):
    """Whether a value at a row breaks a promise of a least value or of a density."""
    if promise[0] == "least":
        return value < promise[1]
    return power(value, form.size) * promise[2] < promise[1] * form.determinant


def are_too_few(form, promise, count):
    """Whether so many least rows break a promise that tells of them.

    A form is perfect exactly if it has at least as many as upper numbers, and which told
    form it is alike to is told by how many they are [7.3].
    """
    if promise[0] == "contacts":
        return count < promise[1]
    if promise[0] == "perfect":
        return count < count_of_uppers(form.size)
    return count != len(RAYS[promise[1]])


def paper_by(form, promise, shortest_rows):
    """Any paper against a promise, or None if it holds; the least value and the least rows are told."""
    least, rows = shortest_rows
    if promise[0] in ("least", "density"):
        return ("row", rows[0]) if is_too_little(form, promise, least) else None
    if not are_too_few(form, promise, len(rows)):
        return None
    if promise[0] == "contacts" or len(rows) >= count_of_uppers(form.size):
        return ("rows", tuple(rows))
    return ("blank", zero_tables(rows)[0])


def does_hold(form, promise):
    """Whether the promise holds."""
    return paper_against(form, promise) is None


def paper_against(form, promise):
    """Any paper against the promise, or None if it holds."""
    need_promise(form, promise)
    return paper_by(form, promise, shortest(form.table))


def is_little_row(form, promise, value):
    """Whether the value is a row that is not all 0, and whose value breaks a promise."""
    if not is_long_row(form.size, value) or first_other_than_0(value) is None:
        return False
    return is_too_little(form, promise, value_at(form.table, value))


def are_rows_against(form, promise, value):
    """Whether the value is the tuple of the least rows, where these are a paper against a promise that is broken."""
    if not isinstance(value, tuple) or not all([is_long_row(form.size, row) for row in value]):
        return False
    paper = paper_against(form, promise)
    return paper is not None and paper == ("rows", value)


def is_paper_against(form, promise, value):
    """Whether the value is a paper against the promise, with integers of any length."""
    need_promise(form, promise)
    if not isinstance(value, tuple) or len(value) != 2:
        return False
    word, told = value
    if promise[0] in ("least", "density"):
        return word == "row" and is_little_row(form, promise, told)
    if word == "rows":
        return are_rows_against(form, promise, told)
    return word == "blank" and promise[0] != "contacts" and is_blank(form, told)
