"""Walls of the cones of copies; nothing is checked here.

A wall is told by the tuple of the indices of the rays that it leaves out: one ray of
`A2`, `A3` and `A4`, and one of each frame of `D4`.
"""

from ballgrids.base.lines import multiplied
from ballgrids.cone.told import RAYS, TABLES, copy_with
from ballgrids.cone.ways import WAYS
from ballgrids.cone.weighing import FRAME_PLACES, height_above, levelled, some_weights
from ballgrids.form.algebra import led_by, moved_by, table_difference, table_sum, undone, value_at

# For each ray the table that makes, together with a table, twice its weight along the ray that
# `some_weights` tells. The wall table is the sum of those of the rays that the wall leaves out.
WEIGHT_TABLES = {
    "A2": (
        ((0, 1), (1, 2)), ((0, -1), (-1, 0)), ((2, 1), (1, 0)),
    ),
    "A3": (
        ((0, 0, 1), (0, 0, 1), (1, 1, 2)), ((0, 0, 0), (0, 0, -1), (0, -1, 0)),
        ((0, 1, 0), (1, 2, 1), (0, 1, 0)), ((0, -1, 0), (-1, 0, 0), (0, 0, 0)),
        ((0, 0, -1), (0, 0, 0), (-1, 0, 0)), ((2, 1, 1), (1, 0, 0), (1, 0, 0)),
    ),
    "A4": (
        ((0, 0, 0, 1), (0, 0, 0, 1), (0, 0, 0, 1), (1, 1, 1, 2)),
        ((0, 0, 0, 0), (0, 0, 0, 0), (0, 0, 0, -1), (0, 0, -1, 0)),
        ((0, 0, 1, 0), (0, 0, 1, 0), (1, 1, 2, 1), (0, 0, 1, 0)),
        ((0, 0, 0, 0), (0, 0, -1, 0), (0, -1, 0, 0), (0, 0, 0, 0)),
        ((0, 0, 0, 0), (0, 0, 0, -1), (0, 0, 0, 0), (0, -1, 0, 0)),
        ((0, 1, 0, 0), (1, 2, 1, 1), (0, 1, 0, 0), (0, 1, 0, 0)),
        ((0, -1, 0, 0), (-1, 0, 0, 0), (0, 0, 0, 0), (0, 0, 0, 0)),
        ((0, 0, -1, 0), (0, 0, 0, 0), (-1, 0, 0, 0), (0, 0, 0, 0)),
        ((0, 0, 0, -1), (0, 0, 0, 0), (0, 0, 0, 0), (-1, 0, 0, 0)),
        ((2, 1, 1, 1), (1, 0, 0, 0), (1, 0, 0, 0), (1, 0, 0, 0)),
    ),
    "D4": (
        ((0, 0, 0, 1), (0, 0, 0, 1), (0, 0, 0, 1), (1, 1, 1, 2)),
        ((0, 0, 1, 0), (0, 0, 1, 0), (1, 1, 2, 1), (0, 0, 1, 0)),
        ((0, 0, 0, 0), (0, 0, 0, 0), (0, 0, 0, 0), (0, 0, 0, 0)),
        ((0, 0, 0, 0), (0, 0, -1, 0), (0, -1, 0, -1), (0, 0, -1, 0)),
        ((0, 0, 0, 0), (0, 0, 0, -1), (0, 0, 0, -1), (0, -1, -1, 0)),
        ((0, 1, 0, 0), (1, 2, 1, 1), (0, 1, 0, 0), (0, 1, 0, 0)),
        ((0, -1, 0, 0), (-1, 0, 0, 0), (0, 0, 0, 1), (0, 0, 1, 0)),
        ((0, 0, 0, 0), (0, 0, 0, 0), (0, 0, 0, 0), (0, 0, 0, 0)),
        ((0, 0, -1, 0), (0, 0, 0, 0), (-1, 0, 0, -1), (0, 0, -1, 0)),
        ((0, 0, 0, -1), (0, 0, 0, 0), (0, 0, 0, -1), (-1, 0, -1, 0)),
        ((2, 1, 1, 1), (1, 0, 0, 0), (1, 0, 0, 0), (1, 0, 0, 0)),
        ((0, 0, 0, 0), (0, 0, 0, 0), (0, 0, 0, 1), (0, 0, 1, 0)),
    ),
}


def walls_of(name):
    """All walls of the cone of a told form."""
    if name != "D4":
        return [(place,) for place in range(len(WEIGHT_TABLES[name]))]
    one, two, three = FRAME_PLACES
    return [(first, second, third) for first in one for second in two for third in three]


def wall_tables_of(name, matrix, walls):
    """The wall tables of some walls of a copy, in their order."""
    back, told = undone(matrix), WEIGHT_TABLES[name]
    places = {place: True for wall in walls for place in wall}
    led = {place: led_by(told[place], back) for place in places}
    if name != "D4":
        return [led[wall[0]] for wall in walls]
    return [table_sum(table_sum(led[one], led[two]), led[three]) for one, two, three in walls]


def walls_below(name, matrix, weights, bound):
    """The ascending list of pairs of a wall table and its wall, for the walls above which a table is not so high.

    The weights tell the table along the rays of the copy.
    """
    walls = [wall for wall in walls_of(name) if height_above(weights, wall) < bound]
    return sorted(list(zip(wall_tables_of(name, matrix, walls), walls)))


def weights_in(copy, table):
    """Integers along the rays of a copy by which a table is told."""
    return some_weights(copy.name, moved_by(table, undone(copy.matrix)))


def told_weights(copy, table):
    """The pair of a scale and of the level weights of a table along the rays of a copy."""
    return levelled(copy.name, weights_in(copy, table))


def wall_without(name, places):
    """The wall that leaves out the rays with these indices and no others, or None."""
    if name != "D4":
        return places if len(places) == 1 else None
    parts = [[place for place in frame if place in places] for frame in FRAME_PLACES]
    if [len(part) for part in parts] != [1, 1, 1]:
        return None
    return tuple([part[0] for part in parts])


def wall_left_out(name, rays, table, height):
    """The wall of a cone that leaves out the rays at which a table has this value, or None.

    At all other rays the table must be 0. The values at the rays tell a table. So it is
    the wall table, or a multiple of it.
    """
    places = []
    for place, ray in enumerate(rays):
        value = value_at(table, ray)
        if value == height:
            places.append(place)
        elif value != 0:
            return None
    return wall_without(name, tuple(places))


def wall_with(copy, table):
    """The wall of a copy with a wall table, or None if the table is none."""
    return wall_left_out(copy.name, copy.rays, table, 2)


def height_behind(name):
    """The value of the form behind a wall, less that of the copy, at the rays that the wall leaves out [9.3]."""
    return 4 if name == "A2" else 2


def wall_between(one, other):
    """The wall of the first copy behind which the other one lies, or None; its form tells the copy."""
    table = table_difference(other.form.table, one.form.table)
    return wall_left_out(one.name, one.rays, table, height_behind(one.name))


def wall_before(name, other, matrix):
    """The wall of a told cone behind which the copy of another told form by a matrix lies, or None."""
    table = table_difference(led_by(TABLES[other], undone(matrix)), TABLES[name])
    return wall_left_out(name, RAYS[name], table, height_behind(name))


def step_over(name, wall):
    """The pair of the name and of a matrix of the copy behind a wall of a told form."""
    if name != "D4":
        return WAYS[name][wall[0]]
    one, two, three = [frame.index(place) for frame, place in zip(FRAME_PLACES, wall)]
    return WAYS[name][16 * one + 4 * two + three]


def copy_behind(copy, wall):
    """The copy behind a wall of a copy."""
    name, matrix = step_over(copy.name, wall)
    return copy_with(name, multiplied(copy.matrix, matrix))
