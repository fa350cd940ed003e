"""Reading texts sign by sign [19.3]."""

from ballgrids.cone.told import NAMES
from ballgrids.errors import ParseError

DIGITS = "0123456789"
FEWEST = 2
MOST = 4


class Reader:
    """A text that is read from its beginning on; `place` is the index of the sign that comes next.

    What does not go on as wanted raises the error with the place.
    """

    def __init__(self, text):
        if not isinstance(text, str):
            raise ParseError(None)
        self.text = text
        self.place = 0

    def is_at(self, signs):
        """Whether the next sign is one of some signs."""
        return self.place < len(self.text) and self.text[self.place] in signs

    def take(self, signs):
        """Takes the next sign, which must be one of some signs."""
        if not self.is_at(signs):
            raise ParseError(self.place)
        self.place += 1
        return self.text[self.place - 1]

    def finish(self):
        """Raises the error unless all of the text is read."""
        if self.place != len(self.text):
            raise ParseError(self.place)

    def digits(self, first, most):
        """Takes a number without a sign: a first digit out of some, and behind one other than 0 further ones."""
        found = self.take(first)
        while found != "0" and len(found) < most and self.is_at(DIGITS):
            found = found + self.take(DIGITS)
        return int(found)

    def integer(self, most):
        """Takes an integer with at most so many digits."""
        if not self.is_at("-"):
            return self.digits(DIGITS, most)
        self.take("-")
        return -self.digits(DIGITS[1:], most)

    def row(self, fewest, most, longest):
        """Takes a row of at least and at most so many integers, and what stands behind it if that is a slash.

        The row ends at a slash, or where it cannot go on.
        """
        found = [self.integer(longest)]
        while len(found) < fewest or (len(found) < most and self.is_at(",")):
            self.take(",")
            found.append(self.integer(longest))
        return tuple(found)

    def square(self, longest, size=None):
        """Takes a square, of a size if one is told, of integers with at most so many digits."""
        if size is None:
            first = self.row(FEWEST, MOST, longest)
        else:
            first = self.row(size, size, longest)
        rows = [first]
        while len(rows) < len(first):
            self.take("/")
            rows.append(self.row(len(first), len(first), longest))
        return tuple(rows)

    def told_name(self):
        """Takes the name of a told form."""
        found = ""
        while found not in NAMES:
            further = [name[len(found)] for name in NAMES if name.startswith(found)]
            found = found + self.take(further)
        return found


def whole_square(text, longest):
    """The square that a text tells, which has nothing else."""
    reader = Reader(text)
    square = reader.square(longest)
    reader.finish()
    return square
