"""Going over walls to the cone in which a positive table lies [11.3]; nothing is checked here."""

from ballgrids.base.lines import multiplied, turned
from ballgrids.cone.told import FIRST
from ballgrids.cone.walls import height_above, some_weights, step_over, walls_of
from ballgrids.form.algebra import moved_by, undone
from ballgrids.short.reducing import reduced_lattice


def wall_below(name, weights):
    """The wall whose table makes least together with the table that has these weights, if that is below 0."""
    height, wall = min([(height_above(weights, wall), wall) for wall in walls_of(name)])
    return wall if height < 0 else None


def way_from(name, matrix, told):
    """The pairs of a name and a matrix of the copies on a way from a copy to a cone in which a table lies.

    The table is always told in the letters of the copy that is reached.
    """
    found = [(name, matrix)]
    while True:
        wall = wall_below(name, some_weights(name, told))
        if wall is None:
            return found
        name, step = step_over(name, wall)
        told, matrix = moved_by(told, undone(step)), multiplied(matrix, step)
        found.append((name, matrix))


def way_to(table):
    """The pairs of a name and a matrix of the copies on a way to a cone in which the table lies.

    The way begins with the first told form in letters in which the table is reduced: so
    it is short.
    """
    reduced, basis = reduced_lattice(table)
    # Of a table Q led by M the rays belong to those of Q, led by the inverse of M turned around.
    return way_from(FIRST[len(table)], turned(undone(turned(basis))), reduced)
