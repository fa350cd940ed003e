"""Reading the commands of a shell piece by piece [19.5]."""

from ballgrids.errors import ParseError
from ballgrids.text.reader import whole_square

MOST_DIGITS = 3
MOST_LETTERS = 8
MOST_SQUARE_DIGITS = 9
# The kinds of the pieces behind the first one of a command; a promise has its own first piece.
SHAPES = {
    "show": (), "led": ("square",), "plus": ("square",), "times": ("number",), "part": ("square",), "cleared": (),
    "adjoint": (), "promises": (), "open": (), "end": (), "cancel": (), "least": (), "contacts": (), "density": (),
    "bound": (), "level": (), "rank": (),
}
WITH_PROMISES = ("promise", "drop", "ask")
PROMISE_SHAPES = {
    "least": ("number",), "density": ("number", "number"), "contacts": ("number",), "perfect": (), "alike": ("word",),
}


def square_of_piece(piece):
    """The square that a piece tells, or None."""
    try:
        return whole_square(piece, MOST_SQUARE_DIGITS)
    except ParseError:
        return None


def number_of_piece(piece):
    """The integer from 0 to 999 that a piece tells, or None."""
    if not piece.isdigit() or len(piece) > MOST_DIGITS or (piece[0] == "0" and piece != "0"):
        return None
    return int(piece)


def told_by_piece(kind, piece):
    """What a piece of a kind tells, or None if it is no such piece."""
    if kind == "square":
        return square_of_piece(piece)
    if kind == "number":
        return number_of_piece(piece)
    return piece if piece.isalnum() and len(piece) <= MOST_LETTERS else None


def told_behind(pieces, start, kinds):
    """What the pieces from an index on tell, which must be of these kinds; raises the error for the first wrong one."""
    found = []
    for at, kind in enumerate(kinds, start):
        told = told_by_piece(kind, pieces[at]) if at < len(pieces) else None
        if told is None:
            raise ParseError(at)
        found.append(told)
    if len(pieces) > start + len(kinds):
        raise ParseError(start + len(kinds))
    return tuple(found)


def told_promise(pieces):
    """The promise that the pieces behind the first one tell; it can be one of another size, or none at all."""
    if len(pieces) < 2 or pieces[1] not in PROMISE_SHAPES:
        raise ParseError(1)
    return (pieces[1],) + told_behind(pieces, 2, PROMISE_SHAPES[pieces[1]])


def told_command(pieces):
    """The pair of the first piece of a command and the tuple of what the others tell.

    Raises the error with the index of the first piece that cannot stand there.
    """
    word = pieces[0]
    if word in WITH_PROMISES:
        return (word, (told_promise(pieces),))
    if word == "undo":
        return (word, told_behind(pieces, 1, ("number",)) if len(pieces) > 1 else (1,))
    if word not in SHAPES:
        raise ParseError(0)
    return (word, told_behind(pieces, 1, SHAPES[word]))
