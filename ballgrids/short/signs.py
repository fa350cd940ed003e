"""The values of a positive table at the rows of -1, 0 and 1; nothing is checked here.

Of a row and its opposite just the normal one is told. The rows stand in one order for all
sizes: ahead of the rows with a letter behind stand all rows without it.
"""

SIGN_ROWS = {
    2: ((1, 0), (0, 1), (1, 1), (1, -1)),
    3: (
        (1, 0, 0), (0, 1, 0), (1, 1, 0), (1, -1, 0), (0, 0, 1), (1, 0, 1), (0, 1, 1), (1, 1, 1), (1, -1, 1), (1, 0, -1),
        (0, 1, -1), (1, 1, -1), (1, -1, -1)),
    4: (
        (1, 0, 0, 0), (0, 1, 0, 0), (1, 1, 0, 0), (1, -1, 0, 0), (0, 0, 1, 0), (1, 0, 1, 0), (0, 1, 1, 0), (1, 1, 1, 0),
        (1, -1, 1, 0), (1, 0, -1, 0), (0, 1, -1, 0), (1, 1, -1, 0), (1, -1, -1, 0), (0, 0, 0, 1), (1, 0, 0, 1),
        (0, 1, 0, 1), (1, 1, 0, 1), (1, -1, 0, 1), (0, 0, 1, 1), (1, 0, 1, 1), (0, 1, 1, 1), (1, 1, 1, 1),
        (1, -1, 1, 1), (1, 0, -1, 1), (0, 1, -1, 1), (1, 1, -1, 1), (1, -1, -1, 1), (1, 0, 0, -1), (0, 1, 0, -1),
        (1, 1, 0, -1), (1, -1, 0, -1), (0, 0, 1, -1), (1, 0, 1, -1), (0, 1, 1, -1), (1, 1, 1, -1), (1, -1, 1, -1),
        (1, 0, -1, -1), (0, 1, -1, -1), (1, 1, -1, -1), (1, -1, -1, -1)),
}


def doubled_pairings(table, index):
    """Twice the pairings of the row with a 1 at the index with the rows of the letters ahead."""
    first, further = 2 * table[index][0], table[index][1:index]
    found = [first]
    for number in further:
        twice = 2 * number
        found = found + [twice] + [told + twice for told in found] + [told - twice for told in found]
    return found


def with_letter(values, pairings, own):
    """The values with one letter more, from those without it; `own` is the value at its row."""
    return values + [own] + [value + own + told for value, told in zip(values, pairings)] + [
        value + own - told for value, told in zip(values, pairings)]


def sign_values(table, many):
    """The values at the rows of the first letters, so many ones."""
    values = [table[0][0]]
    for index in range(1, many):
        values = with_letter(values, doubled_pairings(table, index), table[index][index])
    return values
