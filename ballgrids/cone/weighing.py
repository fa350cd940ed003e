"""Weights of tables along the rays of told forms [0.15], [0.16]; nothing is checked here."""

# The indices of the rays of each frame of `D4`.
FRAME_PLACES = ((0, 1, 6, 11), (2, 5, 8, 9), (3, 4, 7, 10))


def some_weights(name, table):
    """Integers along the rays of a told form by which a table is told.

    For `D4` these are the weights that are 0 along (0, 1, -1, -1) and (1, 0, -1, -1).
    """
    if name == "A2":
        (a, b), (_, c) = table
        return (b + c, -b, a + b)
    if name == "A3":
        (a, b, c), (_, d, e), (_, _, f) = table
        return (c + e + f, -e, b + d + e, -b, -c, a + b + c)
    (a, b, c, d), (_, e, f, g), (_, _, h, i), (_, _, _, j) = table
    last, third, second, first = d + g + i + j, c + f + h + i, b + e + f + g, a + b + c + d
    if name == "A4":
        return (last, -i, third, -f, -g, second, -b, -c, -d, first)
    return (last, third, 0, -f - i, -g - i, second, i - b, 0, -c - i, -d - i, first, i)


def levelled(name, weights):
    """The pair of a scale and of the level weights, multiplied by it, that tell the same table [0.16]."""
    if name != "D4":
        return (1, weights)
    leasts = [min([weights[place] for place in frame]) for frame in FRAME_PLACES]
    total = sum(leasts)
    scale = 1 if total % 3 == 0 else 3
    made = list(weights)
    for frame, least in zip(FRAME_PLACES, leasts):
        for place in frame:
            made[place] = scale * (weights[place] - least) + scale * total // 3
    return (scale, tuple(made))


def least_place(weights, places):
    """The first one of some indices at which the weight is least."""
    return min([(weights[place], place) for place in places])[1]


def wall_lowest(name, weights):
    """The first one of the walls whose tables make least together with the table that has these weights."""
    if name != "D4":
        return (weights.index(min(weights)),)
    return tuple([least_place(weights, frame) for frame in FRAME_PLACES])


def height_above(weights, wall):
    """Half of what the wall table makes together with the table that has these weights."""
    return sum([weights[place] for place in wall])
