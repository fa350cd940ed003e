"""Going over walls to the cone in which a positive table lies [11.3]; nothing is checked here."""

from ballgrids.base.lines import multiplied, turned
from ballgrids.cone.told import FIRST
from ballgrids.cone.walls import step_over
from ballgrids.cone.weighing import height_above, levelled, wall_lowest, some_weights
from ballgrids.form.algebra import moved_by, undone
from ballgrids.short.reducing import reduced_lattice


def way_from(name, matrix, told):
    """The way from a copy to a cone in which a table lies, always over the wall whose table makes least.

    It is a pair of the copies, each one told by its name and matrix, and of weights that
    tell the table along the rays of the last one. The table is always told in the letters
    of the copy that is reached.
    """
    found, weights = [(name, matrix)], some_weights(name, told)
    wall = wall_lowest(name, weights)
    while height_above(weights, wall) < 0:
        name, step = step_over(name, wall)
        told, matrix = moved_by(told, undone(step)), multiplied(matrix, step)
        found.append((name, matrix))
        weights = some_weights(name, told)
        wall = wall_lowest(name, weights)
    return found, weights


def way_to(table):
    """A way, as of `way_from`, to a cone in which the table lies.

    It begins with the first told form in letters in which the table is reduced: so it is
    short.
    """
    reduced, basis = reduced_lattice(table)
    # Of a table Q led by M the rays belong to those of Q, led by the inverse of M turned around.
    return way_from(FIRST[len(table)], turned(undone(turned(basis))), reduced)


def place_of(table):
    """The name and the matrix of a copy in whose cone a table lies, the scale, and the level weights [11.1]."""
    copies, weights = way_to(table)
    name, matrix = copies[-1]
    return (name, matrix) + levelled(name, weights)
