"""Cones of copies and their walls [9.1] to [9.4]."""

from ballgrids.base.numbers import are_integers
from ballgrids.cone.needs import need_copies, need_copy
from ballgrids.cone.walls import (
    copy_behind, told_weights, wall_between, wall_tables_of, wall_with, walls_below, walls_of, weights_in)
from ballgrids.cone.weighing import height_above, wall_lowest
from ballgrids.errors import InvalidOperation
from ballgrids.form.algebra import squares_sum
from ballgrids.form.matrices import need_table


def wall_needed(copy, table):
    """The wall of a copy with this wall table; raises the error if there is none."""
    need_copy(copy)
    need_table(copy.size, table)
    wall = wall_with(copy, table)
    if wall is None:
        raise InvalidOperation("the table must be a wall table of the copy")
    return wall


def wall_tables(copy):
    """The ascending tuple of all wall tables."""
    need_copy(copy)
    return tuple(sorted(wall_tables_of(copy.name, copy.matrix, walls_of(copy.name))))


def wall_rows(copy, table):
    """The ascending tuple of the rows of the wall with a wall table."""
    wall = wall_needed(copy, table)
    return tuple(sorted([ray for place, ray in enumerate(copy.rays) if place not in wall]))


def behind(copy, table):
    """The copy behind the wall with a wall table, by any of its matrices."""
    return copy_behind(copy, wall_needed(copy, table))


def are_beside(one, other):
    """Whether one copy lies behind a wall of the other one."""
    need_copies(one, other)
    return wall_between(one, other) is not None


def level_weights(copy, table):
    """The pair of a scale and of the level weights of a table, multiplied by it, as integers."""
    need_copy(copy)
    need_table(copy.size, table)
    return told_weights(copy, table)


def weighted(copy, weights):
    """The sum of the squares of the rays of a copy, each multiplied by an integer."""
    need_copy(copy)
    if not are_integers(weights, len(copy), len(copy)):
        raise InvalidOperation("the weights must be a tuple of as many integers as there are rays")
    return squares_sum(copy.rays, weights)


def is_in_cone(copy, table):
    """Whether a table lies in the cone of a copy."""
    need_copy(copy)
    need_table(copy.size, table)
    weights = weights_in(copy, table)
    return height_above(weights, wall_lowest(copy.name, weights)) >= 0


def crossed(copy, table):
    """The ascending tuple of the wall tables that make less than 0 together with a table."""
    need_copy(copy)
    need_table(copy.size, table)
    found = walls_below(copy.name, copy.matrix, weights_in(copy, table), 0)
    return tuple([told for told, wall in found])
