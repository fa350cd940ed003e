"""Integers of any length as texts."""

PIECE = 10 ** 60


def written(number):
    """The integer in decimal digits.

    `str` refuses integers of more than 4300 digits, and forms can have such ones.
    """
    if -PIECE < number < PIECE:
        return str(number)
    rest = abs(number)
    pieces = []
    while rest >= PIECE:
        pieces.append(str(rest % PIECE).zfill(60))
        rest = rest // PIECE
    pieces.append(str(rest))
    sign = "-" if number < 0 else ""
    digits = "".join(pieces[::-1])
    return f"{sign}{digits}"


def written_square(square, between=" "):
    """The integers of a square, row by row, with a sign between two of them."""
    return "/".join([between.join([written(number) for number in row]) for row in square])
