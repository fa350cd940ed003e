"""Weights along the rays of told forms, and the walls of their cones; nothing is checked here.

A wall is told by the tuple of the indices of the rays that it leaves out: one ray of
`A2`, `A3` and `A4`, and one of each frame of `D4`.
"""

from ballgrids.base.lines import dot, multiplied
from ballgrids.cone.told import RAYS, TABLES, copy_with
from ballgrids.cone.ways import WAYS
from ballgrids.form.algebra import entries_of, led_by, moved_by, sum_of_tables, table_difference, undone, value_at

# For each ray the table that makes, together with a table, twice its weight along the ray.
# For `D4` these are the weights that are 0 along (0, 1, -1, -1) and (1, 0, -1, -1).
WEIGHT_TABLES = {
    "A2": (
        ((0, 1), (1, 2)), ((0, -1), (-1, 0)), ((2, 1), (1, 0)),
    ),
    "A3": (
        ((0, 0, 1), (0, 0, 1), (1, 1, 2)), ((0, 0, 0), (0, 0, -1), (0, -1, 0)),
        ((0, 1, 0), (1, 2, 1), (0, 1, 0)), ((0, -1, 0), (-1, 0, 0), (0, 0, 0)),
        ((0, 0, -1), (0, 0, 0), (-1, 0, 0)), ((2, 1, 1), (1, 0, 0), (1, 0, 0)),
    ),
    "A4": (
        ((0, 0, 0, 1), (0, 0, 0, 1), (0, 0, 0, 1), (1, 1, 1, 2)),
        ((0, 0, 0, 0), (0, 0, 0, 0), (0, 0, 0, -1), (0, 0, -1, 0)),
        ((0, 0, 1, 0), (0, 0, 1, 0), (1, 1, 2, 1), (0, 0, 1, 0)),
        ((0, 0, 0, 0), (0, 0, -1, 0), (0, -1, 0, 0), (0, 0, 0, 0)),
        ((0, 0, 0, 0), (0, 0, 0, -1), (0, 0, 0, 0), (0, -1, 0, 0)),
        ((0, 1, 0, 0), (1, 2, 1, 1), (0, 1, 0, 0), (0, 1, 0, 0)),
        ((0, -1, 0, 0), (-1, 0, 0, 0), (0, 0, 0, 0), (0, 0, 0, 0)),
        ((0, 0, -1, 0), (0, 0, 0, 0), (-1, 0, 0, 0), (0, 0, 0, 0)),
        ((0, 0, 0, -1), (0, 0, 0, 0), (0, 0, 0, 0), (-1, 0, 0, 0)),
        ((2, 1, 1, 1), (1, 0, 0, 0), (1, 0, 0, 0), (1, 0, 0, 0)),
    ),
    "D4": (
        ((0, 0, 0, 1), (0, 0, 0, 1), (0, 0, 0, 1), (1, 1, 1, 2)),
        ((0, 0, 1, 0), (0, 0, 1, 0), (1, 1, 2, 1), (0, 0, 1, 0)),
        ((0, 0, 0, 0), (0, 0, 0, 0), (0, 0, 0, 0), (0, 0, 0, 0)),
        ((0, 0, 0, 0), (0, 0, -1, 0), (0, -1, 0, -1), (0, 0, -1, 0)),
        ((0, 0, 0, 0), (0, 0, 0, -1), (0, 0, 0, -1), (0, -1, -1, 0)),
        ((0, 1, 0, 0), (1, 2, 1, 1), (0, 1, 0, 0), (0, 1, 0, 0)),
        ((0, -1, 0, 0), (-1, 0, 0, 0), (0, 0, 0, 1), (0, 0, 1, 0)),
        ((0, 0, 0, 0), (0, 0, 0, 0), (0, 0, 0, 0), (0, 0, 0, 0)),
        ((0, 0, -1, 0), (0, 0, 0, 0), (-1, 0, 0, -1), (0, 0, -1, 0)),
        ((0, 0, 0, -1), (0, 0, 0, 0), (0, 0, 0, -1), (-1, 0, -1, 0)),
        ((2, 1, 1, 1), (1, 0, 0, 0), (1, 0, 0, 0), (1, 0, 0, 0)),
        ((0, 0, 0, 0), (0, 0, 0, 0), (0, 0, 0, 1), (0, 0, 1, 0)),
    ),
}
# The indices of the rays of each frame of `D4`.
FRAME_PLACES = ((0, 1, 6, 11), (2, 5, 8, 9), (3, 4, 7, 10))


def some_weights(name, table):
    """Integers along the rays of a told form by which a table is told."""
    entries = entries_of(table)
    return tuple([dot(entries_of(told), entries) // 2 for told in WEIGHT_TABLES[name]])


def levelled(name, weights):
    """The pair of a scale and of the level weights, multiplied by it, that tell the same table [0.16]."""
    if name != "D4":
        return (1, weights)
    leasts = [min([weights[place] for place in frame]) for frame in FRAME_PLACES]
    total = sum(leasts)
    scale = 1 if total % 3 == 0 else 3
    made = list(weights)
    for frame, least in zip(FRAME_PLACES, leasts):
        for place in frame:
            made[place] = scale * (weights[place] - least) + scale * total // 3
    return (scale, tuple(made))


def walls_of(name):
    """All walls of the cone of a told form."""
    if name != "D4":
        return [(place,) for place in range(len(WEIGHT_TABLES[name]))]
    one, two, three = FRAME_PLACES
    return [(first, second, third) for first in one for second in two for third in three]


def height_above(weights, wall):
    """Half of what the wall table makes together with the table that has these weights."""
    return sum([weights[place] for place in wall])


def wall_tables_of(copy, walls):
    """The wall tables of some walls of a copy, in their order."""
    back = undone(copy.matrix)
    told = WEIGHT_TABLES[copy.name]
    places = {place: True for wall in walls for place in wall}
    led = {place: led_by(told[place], back) for place in places}
    return [sum_of_tables([led[place] for place in wall]) for wall in walls]


def weights_in(copy, table):
    """Integers along the rays of a copy by which a table is told."""
    return some_weights(copy.name, moved_by(table, undone(copy.matrix)))


def told_weights(copy, table):
    """The pair of a scale and of the level weights of a table along the rays of a copy."""
    return levelled(copy.name, weights_in(copy, table))


def wall_without(name, places):
    """The wall that leaves out the rays with these indices and no others, or None."""
    if name != "D4":
        return places if len(places) == 1 else None
    parts = [[place for place in frame if place in places] for frame in FRAME_PLACES]
    if [len(part) for part in parts] != [1, 1, 1]:
        return None
    return tuple([part[0] for part in parts])


def wall_left_out(name, rays, table, height):
    """The wall of a cone that leaves out the rays at which a table has this value, or None.

    At all other rays the table must be 0. The values at the rays tell a table. So it is
    the wall table, or a multiple of it.
    """
    values = [value_at(table, ray) for ray in rays]
    if any([value not in (0, height) for value in values]):
        return None
    return wall_without(name, tuple([place for place, value in enumerate(values) if value == height]))


def wall_with(copy, table):
    """The wall of a copy with a wall table, or None if the table is none."""
    return wall_left_out(copy.name, copy.rays, table, 2)


def height_behind(name):
    """The value of the form behind a wall, less that of the copy, at the rays that the wall leaves out [9.3]."""
    return 4 if name == "A2" else 2


def wall_between(one, other):
    """The wall of the first copy behind which the other one lies, or None; its form tells the copy."""
    table = table_difference(other.form.table, one.form.table)
    return wall_left_out(one.name, one.rays, table, height_behind(one.name))


def wall_before(name, other, matrix):
    """The wall of a told cone behind which the copy of another told form by a matrix lies, or None."""
    table = table_difference(led_by(TABLES[other], undone(matrix)), TABLES[name])
    return wall_left_out(name, RAYS[name], table, height_behind(name))


def step_over(name, wall):
    """The pair of the name and of a matrix of the copy behind a wall of a told form."""
    return WAYS[name][walls_of(name).index(wall)]


def copy_behind(copy, wall):
    """The copy behind a wall of a copy."""
    name, matrix = step_over(copy.name, wall)
    return copy_with(name, multiplied(copy.matrix, matrix))
