"""Finding all short rows of a positive table of any length; nothing is checked here.

Rows are found line by line. A line has all entries but the first one in common, its
tail. Of a row and its opposite just one is on a line, and the row of zeros is on none.
"""

from math import isqrt

from ballgrids.base.lines import cleared_line, dot, turned


def shadows_of(table):
    """A pair of a scale and a table for each letter.

    The value of the table with the index i at the entries of a row from i on is the
    scale, multiplied by the least value that any fractions ahead of them make of them.
    """
    rest, scale, found = table, 1, []
    for _ in range(len(table)):
        found.append((scale, rest))
        pivot = rest[0]
        rest = [cleared_line(pivot, line, 0, scale)[1:] for line in rest[1:]]
        scale = pivot[0]
    return found


def levels_of(table):
    """For each letter the scale of its shadow, the first number of this, and the others of its first line."""
    return [(scale, rest[0][0], rest[0][1:]) for scale, rest in shadows_of(table)]


class Line:
    """The rows with a tail whose first entry is from `low` to `high`.

    The value at the entry x is (factor x + twice) x + rest.
    """

    def __init__(self, tail, ends, worths):
        self.tail = tail
        self.low, self.high = ends
        self.factor, self.twice, self.rest = worths

    def value(self, entry):
        """The value of the row with this entry."""
        return (self.factor * entry + self.twice) * entry + self.rest

    def worths(self):
        """The values of all rows of the line."""
        factor, twice, rest = self.factor, self.twice, self.rest
        return [(factor * entry + twice) * entry + rest for entry in range(self.low, self.high + 1)]

    def narrowed(self, low, high):
        """The line with other ends."""
        return Line(self.tail, (low, high), (self.factor, self.twice, self.rest))


class Search:
    """The lines of all rows with values from 0 to a bound; it ends where there are more than `most`."""

    def __init__(self, table, bound, most=None):
        self.levels = levels_of(table)
        self.bound = bound
        self.most = most
        self.many = 0
        self.lines = []
        self.gather((), 0)

    def is_over(self):
        """Whether there are more rows than wanted."""
        return self.most is not None and self.many > self.most

    def gather(self, tail, worth):
        """Takes the lines whose rows end with the tail; `worth` is its value by its own shadow."""
        scale, first, factors = self.levels[len(self.levels) - len(tail) - 1]
        mixed = dot(factors, tail)
        root = isqrt(scale * (first * self.bound - worth))
        low, high = -((mixed + root) // first), (root - mixed) // first
        if worth == 0:
            # The tail is all 0 then. Of a row and its opposite one is enough.
            low = 0 if len(tail) + 1 < len(self.levels) else 1
        rest, twice = (mixed * mixed + scale * worth) // first, 2 * mixed
        if len(tail) + 1 < len(self.levels):
            for entry in range(low, high + 1):
                self.gather((entry,) + tail, (first * entry + twice) * entry + rest)
                if self.is_over():
                    return
        elif low <= high:
            self.lines.append(Line(tail, (low, high), (first, twice, rest)))
            self.many = self.many + high - low + 1


def lines_at(search):
    """Lines of one row each, for the rows whose value is the bound itself: they are at the ends of the lines."""
    found = []
    for line in search.lines:
        ends = (line.low, line.high) if line.low < line.high else (line.low,)
        for end in ends:
            if line.value(end) == search.bound:
                found.append(line.narrowed(end, end))
    return found


def progress(start, step, count):
    """So many numbers, each one greater than the one ahead by the step."""
    if step == 0:
        return [start] * count
    return list(range(start, start + step * count, step))


def led_line(spread, line):
    """The rows of a line led to the letters of a lattice, made normal.

    `spread` has the first number of the rows of the basis, and the others, for each letter.
    """
    count = line.high - line.low + 1
    ahead = [(line.low * step + dot(others, line.tail), step) for step, others in spread]
    rows = turned([progress(start, step, count) for start, step in ahead])
    opposites = turned([progress(-start, -step, count) for start, step in ahead])
    # Of a row and its opposite the normal one is the greater one.
    return [max(row, opposite) for row, opposite in zip(rows, opposites)]


def spread_of(basis):
    """For each letter the number of the first row of a basis, and those of the others."""
    return [(column[0], column[1:]) for column in turned(basis)]


def led_lines(basis, lines):
    """The normal rows of some lines, led by the rows of a basis."""
    spread = spread_of(basis)
    return [row for line in lines for row in led_line(spread, line)]


def valued_rows(basis, lines):
    """The ascending list of pairs of a value and a normal row, for all rows of some lines."""
    spread = spread_of(basis)
    return sorted([pair for line in lines for pair in zip(line.worths(), led_line(spread, line))])
