"""The rows with the least values in their cosets [16.1]; nothing is checked here.

A coset has all rows whose numbers leave told remainders modulo 2: with a row v also all
rows v + 2 y. Just one of a row and its opposite is looked for.
"""

from ballgrids.base.lines import dot, first_other_than_0, turned
from ballgrids.form.algebra import image, made_normal, undone
from ballgrids.short.reducing import reduced_lattice
from ballgrids.short.search import levels_of


def nearest_entry(first, mixed, parity):
    """The integer with a remainder that is nearest to -mixed / first."""
    return parity + 2 * ((first - mixed - parity * first) // (2 * first))


class CosetSearch:
    """The least value in a coset, and the rows with it; `remainders` are those of the numbers of its rows.

    Rows are looked for from their last entry to their first one, with the nearest entries
    first. `levels` are told by the shadows of the table.
    """

    def __init__(self, levels, remainders):
        self.levels = levels
        self.remainders = remainders
        self.least = None
        self.found = []
        self.look((), 0)

    def look(self, tail, worth):
        """Takes the rows that end with the tail; `worth` is its value by its own shadow."""
        at = len(self.levels) - len(tail) - 1
        scale, first, factors = self.levels[at]
        mixed = dot(factors, tail)
        rest = (mixed * mixed + scale * worth) // first
        entry = nearest_entry(first, mixed, self.remainders[at])
        # Of a row and its opposite one is enough: the one whose last entry other than 0 is above 0.
        step = 2 if first * entry + mixed <= 0 else -2
        while True:
            value = (first * entry + 2 * mixed) * entry + rest
            if self.least is not None and value > scale * self.least:
                return
            if at > 0:
                self.look((entry,) + tail, value)
            else:
                self.take((entry,) + tail, value)
            if worth == 0:
                entry = entry + 2
            else:
                entry, step = entry + step, -step - 2 if step > 0 else 2 - step

    def take(self, row, value):
        """Takes a row whose value is at most the least one so far."""
        if value != self.least:
            self.least = value
            self.found = []
        self.found.append(row)


def all_remainders(size):
    """All remainders of rows modulo 2, but those of the row of zeros."""
    return [tuple([number >> place & 1 for place in range(size)]) for number in range(1, 1 << size)]


def relevant_of(table):
    """The ascending list of the normal relevant rows of a positive table."""
    lattice, basis = reduced_lattice(table)
    levels, columns = levels_of(lattice), turned(basis)
    searches = [CosetSearch(levels, remainders) for remainders in all_remainders(len(table))]
    return sorted([made_normal(image(columns, search.found[0])) for search in searches if len(search.found) == 1])


def is_relevant_row(table, row):
    """Whether a row with integers of any length is relevant, normal or not."""
    if first_other_than_0(row) is None:
        return False
    lattice, basis = reduced_lattice(table)
    told = image(undone(turned(basis)), row)
    remainders = tuple([number & 1 for number in told])
    if first_other_than_0(remainders) is None:
        return False
    rows = CosetSearch(levels_of(lattice), remainders).found
    return len(rows) == 1 and made_normal(rows[0]) == made_normal(told)
