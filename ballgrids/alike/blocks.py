"""Fitting the letters of a block of equal least values; nothing is checked here."""

from ballgrids.base.lines import adjugate, determinant_of, dot, leading_block, turned
from ballgrids.form.algebra import image
from ballgrids.short.search import Search


def opposite(row):
    """The row with all signs changed."""
    return tuple([-number for number in row])


def rows_by_value(table, values):
    """For each of some values the list of the rows with it, just one of each row and its opposite."""
    found = {value: [] for value in values}
    for line in Search(table, max(values)).lines:
        for entry, value in enumerate(line.worths(), line.low):
            if value in found:
                found[value].append((entry,) + line.tail)
    return found


def signed_pairings(table, rows, others):
    """The pairings of some rows and of their opposites with other rows and with the opposites of these."""
    lines = [[dot(told, other) for other in others] for told in [image(table, row) for row in rows]]
    signed = [line + [-number for number in line] for line in lines]
    return signed + [opposite(line) for line in signed]


def fit_bits(pairings, wanted):
    """For each line of pairings an integer whose bits tell where the wanted one stands."""
    return [sum([1 << at for at, number in enumerate(line) if number == wanted]) for line in pairings]


def fits_of(one, other, rows):
    """For each column of a matrix, and for each column behind it, which choices fit to each of its own ones."""
    values = [line[index] for index, line in enumerate(other)]
    size = len(values)
    pairs = {(values[at], values[place]): True for at in range(size) for place in range(at + 1, size)}
    pairings = {(first, second): signed_pairings(one, rows[first], rows[second]) for first, second in pairs}
    told = {(values[at], values[place], other[at][place]): True for at in range(size) for place in range(at + 1, size)}
    fits = {(first, second, wanted): fit_bits(pairings[(first, second)], wanted) for first, second, wanted in told}
    return [
        [fits[(values[at], values[place], other[at][place])] for place in range(at + 1, size)] for at in range(size)
    ]


class Block:
    """All tuples of columns that take one positive table to another one, or so many as are wanted."""

    def __init__(self, one, other, most=None):
        values = [line[index] for index, line in enumerate(other)]
        rows = rows_by_value(one, values)
        self.most = most
        self.choices = [rows[value] + [opposite(row) for row in rows[value]] for value in values]
        self.fits = fits_of(one, other, rows)
        self.found = []
        self.fit((), [(1 << len(choice)) - 1 for choice in self.choices])

    def fit(self, columns, allowed):
        """Takes the tuples that begin with some columns; bits tell what is allowed for each further one."""
        index, rest, behind = len(columns), allowed[0], allowed[1:]
        choice, fits = self.choices[index], self.fits[index]
        while rest > 0:
            at = rest.bit_length() - 1
            rest = rest - (1 << at)
            made = columns + (choice[at],)
            if behind:
                self.fit(made, [left & told[at] for left, told in zip(behind, fits)])
            else:
                self.found.append(made)
            if self.most is not None and len(self.found) >= self.most:
                return


def heads_along(one, start, behind):
    """For each tail its entries along the first letters, multiplied by the determinant of these."""
    solver = adjugate(leading_block(one, start))
    told = {tail: True for tails in behind for tail in tails}
    return {tail: image(solver, [dot(line[start:], tail) for line in one[:start]]) for tail in told}


def shifts_along(other, start, end):
    """For each column of a block its entries along the first columns, multiplied as `heads_along` does."""
    solver = adjugate(leading_block(other, start))
    return [image(solver, [line[place] for line in other[:start]]) for place in range(start, end)]


def with_heads(tails, heads, wanted, divisor):
    """The columns with these tails that have the wanted entries along the first letters, or None."""
    made = []
    for tail, ahead in zip(tails, wanted):
        tops = [top - number for top, number in zip(ahead, heads[tail])]
        if any([top % divisor != 0 for top in tops]):
            return None
        made.append(tuple([top // divisor for top in tops]) + tail)
    return tuple(made)


def joined(one, other, start, found, behind):
    """All tuples of columns that join one of `found`, in the first letters, and tails of one of `behind`.

    What stands above the tails is told by the pairings with the first columns.
    """
    if start == 0 or not behind:
        return behind
    zeros = (0,) * len(behind[0])
    divisor = determinant_of(leading_block(one, start))
    heads, shifts = heads_along(one, start, behind), shifts_along(other, start, start + len(zeros))
    made = []
    for columns in found:
        lines = turned(columns)
        wanted = [image(lines, shift) for shift in shifts]
        for tails in behind:
            last = with_heads(tails, heads, wanted, divisor)
            if last is not None:
                made.append(tuple([column + zeros for column in columns]) + last)
    return made
