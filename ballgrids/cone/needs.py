"""The errors that many functions with copies raise alike [0.7]."""

from ballgrids.cone.told import Copy
from ballgrids.errors import InvalidCopy, InvalidOperation


def need_copy(copy):
    """Raises the error if the value is no copy."""
    if not isinstance(copy, Copy):
        raise InvalidCopy("a copy must be an object of Copy")


def need_copies(one, other):
    """Raises the error if one of the values is no copy, or their sizes are unlike."""
    need_copy(one)
    need_copy(other)
    if one.size != other.size:
        raise InvalidOperation("the sizes of both copies must be equal")
