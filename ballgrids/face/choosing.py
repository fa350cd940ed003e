"""Choosing rays of a told form that are the rows of a face [14.1]; nothing is checked here."""

from ballgrids.cone.weighing import FRAME_PLACES

# For each told form the greatest sets of rays, by their indices, of which no n are independent.
FLATS = {
    "A2": ((0,), (1,), (2,)),
    "A3": ((0, 1, 2), (0, 3), (0, 4, 5), (1, 3, 4), (1, 5), (2, 3, 5), (2, 4)),
    "A4": (
        (0, 1, 2, 3, 4, 5), (0, 1, 2, 6), (0, 1, 2, 7, 8, 9), (0, 3, 6, 7), (0, 3, 8, 9), (0, 4, 5, 6, 8, 9),
        (0, 4, 5, 7), (1, 3, 4, 6, 7, 8), (1, 3, 4, 9), (1, 5, 6, 9), (1, 5, 7, 8), (2, 3, 5, 6, 7, 9), (2, 3, 5, 8),
        (2, 4, 6, 8), (2, 4, 7, 9)),
    "D4": (
        (0, 1, 2, 3, 4, 5), (0, 1, 6), (0, 1, 7, 8, 9, 10), (0, 1, 11), (0, 2, 3, 6, 7, 8), (0, 2, 3, 9, 10, 11),
        (0, 4, 5, 6, 9, 10), (0, 4, 5, 7, 8, 11), (0, 6, 11), (1, 2, 4, 6, 7, 9), (1, 2, 4, 8, 10, 11),
        (1, 3, 5, 6, 8, 10), (1, 3, 5, 7, 9, 11), (1, 6, 11), (2, 5, 6, 7, 10, 11), (2, 5, 8), (2, 5, 9), (2, 8, 9),
        (3, 4, 6, 8, 9, 11), (3, 4, 7), (3, 4, 10), (3, 7, 10), (4, 7, 10), (5, 8, 9)),
}


def has_whole_frame(places):
    """Whether some rays of D4, by their indices, are all rays of a frame and perhaps further ones."""
    return any([all([place in places for place in frame]) for frame in FRAME_PLACES])


def independent_choices(name, order, many):
    """The tuples of so many indices of rays, in the order in which they are passed, n of which are independent.

    With each choice those flats are kept in which all of its rays lie.
    """
    parts = [((), 0, FLATS[name])]
    for left in range(many, 0, -1):
        end = len(order) - left + 1
        parts = [
            (places + (order[at],), at + 1, [flat for flat in flats if order[at] in flat])
            for places, start, flats in parts for at in range(start, end)
        ]
    return [places for places, start, flats in parts if not flats]


def face_choices(name, order, many):
    """The tuples of so many indices of rays that are a face, in the order in which the indices are passed.

    A wall leaves out one ray of `A2`, `A3` and `A4`, and one ray of each frame of `D4`.
    """
    if many >= len(order):
        return [tuple(order)] if many == len(order) else []
    choices = independent_choices(name, order, many)
    if name != "D4":
        return choices
    return [places for places in choices if not has_whole_frame(places)]
