"""The errors that many functions raise alike [0.7]."""

from ballgrids.base.numbers import is_integer
from ballgrids.errors import InvalidForm, InvalidNumber, InvalidOperation
from ballgrids.form.forms import Form


def need_form(form):
    """Raises the error if the value is no form."""
    if not isinstance(form, Form):
        raise InvalidForm("a form must be an object of Form")


def need_forms(one, other):
    """Raises the error if one of the values is no form, or their sizes are unlike."""
    need_form(one)
    need_form(other)
    if one.size != other.size:
        raise InvalidOperation("the sizes of both forms must be equal")


def need_number(number, least, most=None):
    """Raises the error if the value is no integer within the bounds, the upper one perhaps none."""
    if not is_integer(number) or number < least:
        raise InvalidNumber(number)
    if most is not None and number > most:
        raise InvalidNumber(number)
