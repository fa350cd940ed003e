"""Galleries of copies, steps between told forms, and words of matrices [15.1] to [15.4]."""

from ballgrids.base.kinds import is_long_matrix
from ballgrids.base.lines import multiplied, unit_lines
from ballgrids.cone.needs import need_copies, need_copy
from ballgrids.cone.told import FIRST, NAMES, RAYS, TABLES, Copy, copy_with, need_name
from ballgrids.cone.walking import way_from
from ballgrids.cone.walls import step_over, wall_before, wall_between, wall_tables_of, walls_of
from ballgrids.errors import InvalidOperation, InvalidStep, TooMany
from ballgrids.form.algebra import entries_of, image, led_by, moved_by, squares_sum, undone
from ballgrids.form.matrices import need_matrix, need_size

MOST_ENTRY = 30
# What leads the told cone of `A2` to one of three cones in whose letters [15.4] tells the distance.
BENDS = (((1, 0), (0, 1)), ((0, -1), (1, 1)), ((1, 1), (0, -1)))


def steps_beside(name, other, value):
    """Whether the value is a matrix whose copy of the other told form lies behind a wall of the first one."""
    return is_long_matrix(len(TABLES[name]), value) and wall_before(name, other, value) is not None


def is_step(name, other, value):
    """Whether the value is a step from the first name to the other one [15.2]."""
    need_name(name)
    need_name(other)
    if len(TABLES[name]) != len(TABLES[other]):
        raise InvalidOperation("the sizes of both told forms must be equal")
    return steps_beside(name, other, value)


def each_step(name):
    """A generator of a name and a matrix of the copy behind each wall of the told cone."""
    need_name(name)
    walls = walls_of(name)
    tables = wall_tables_of(name, unit_lines(len(TABLES[name])), walls)
    for _, wall in sorted(list(zip(tables, walls))):
        yield step_over(name, wall)


def need_small(matrix):
    """Raises the error if a matrix has an integer below -30 or above 30."""
    if max([abs(number) for number in entries_of(matrix)]) > MOST_ENTRY:
        raise TooMany(MOST_ENTRY)


def way_between(name, other, matrix):
    """The pairs of a name and a matrix of the copies on a way from a told cone to that of another copy.

    A table with equal weights along all rays of a copy lies in no other cone [11.2]. The
    matrix of the last one is the one that is passed, but where both cones are the same.
    """
    rays = RAYS[other]
    middle = moved_by(squares_sum(rays, (1,) * len(rays)), matrix)
    way = way_from(name, unit_lines(len(matrix)), middle)[0]
    return way[:1] if len(way) == 1 else way[:-1] + [(other, matrix)]


def gallery(one, other):
    """Any gallery that begins with one copy and ends with another one."""
    need_copies(one, other)
    between = multiplied(undone(one.matrix), other.matrix)
    need_small(between)
    way = way_between(one.name, other.name, between)
    if len(way) == 1:
        return (one,)
    inner = [copy_with(name, multiplied(one.matrix, matrix)) for name, matrix in way[1:-1]]
    return (one,) + tuple(inner) + (other,)


def is_gallery(value):
    """Whether the value is a tuple of copies of one size, each two neighbours beside each other."""
    if not isinstance(value, tuple) or len(value) == 0:
        return False
    if not all([isinstance(copy, Copy) for copy in value]) or any([copy.size != value[0].size for copy in value]):
        return False
    return all([wall_between(copy, behind) is not None for copy, behind in zip(value, value[1:])])


def steps_along(matrices):
    """For each matrix but the first one the product of the inverse of the one ahead and of itself."""
    return [multiplied(undone(ahead), matrix) for ahead, matrix in zip(matrices, matrices[1:])]


def steps_of(copies):
    """The tuple of the pairs of a name and a step of a gallery."""
    if not is_gallery(copies):
        raise InvalidOperation("the copies must be a gallery")
    steps = steps_along([copy.matrix for copy in copies])
    return tuple([(copy.name, step) for copy, step in zip(copies[1:], steps)])


def is_pair_from(name, value):
    """Whether the value is a pair of a name of the same size and of a step to it from a name."""
    if not isinstance(value, tuple) or len(value) != 2 or value[0] not in NAMES:
        return False
    return len(TABLES[name]) == len(TABLES[value[0]]) and steps_beside(name, value[0], value[1])


def are_steps_from(name, value):
    """Whether the value is a tuple of pairs of a name and of a step to it from the name ahead."""
    if not isinstance(value, tuple):
        return False
    for pair in value:
        if not is_pair_from(name, pair):
            return False
        name = pair[0]
    return True


def gallery_along(copy, steps):
    """The gallery that begins with a copy and has some steps."""
    need_copy(copy)
    if not are_steps_from(copy.name, steps):
        raise InvalidStep("the steps must be a tuple of pairs of a name and of a step to it from the name ahead")
    found = [copy]
    for name, step in steps:
        found.append(copy_with(name, multiplied(found[-1].matrix, step)))
    return tuple(found)


def is_keeper_of(name, value):
    """Whether the value is a matrix that leads the rays of a told form to its rays.

    As the rays tell the form [7.3], that is so exactly if the matrix takes it to itself.
    """
    return is_long_matrix(len(TABLES[name]), value) and led_by(TABLES[name], value) == TABLES[name]


def is_some_word(size, value):
    """Whether the value is a word of some matrix of the size."""
    if not isinstance(value, tuple) or len(value) == 0:
        return False
    first, name = value[0], FIRST[size]
    if not isinstance(first, tuple) or len(first) != 2 or first[0] != name or not is_keeper_of(name, first[1]):
        return False
    return are_steps_from(name, value[1:]) and value[-1][0] == name


def word_product(word):
    """The product of all matrices of a word."""
    made = word[0][1]
    for _, matrix in word[1:]:
        made = multiplied(made, matrix)
    return made


def word_of(size, matrix):
    """Any word of a matrix."""
    need_size(size)
    need_matrix(size, matrix)
    need_small(matrix)
    name = FIRST[size]
    way = way_between(name, name, matrix)
    if len(way) == 1:
        return ((name, matrix),)
    steps = steps_along([told for _, told in way])
    return ((name, unit_lines(size)),) + tuple([(told, step) for (told, _), step in zip(way[1:], steps)])


def is_word(size, matrix, value):
    """Whether the value is a word of a matrix."""
    need_size(size)
    need_matrix(size, matrix)
    return is_some_word(size, value) and word_product(value) == matrix


def told_by_word(size, word):
    """The matrix whose word this is."""
    need_size(size)
    if not is_some_word(size, word):
        raise InvalidStep("the word must be a word of some matrix of the size")
    return word_product(word)


def have_like_signs(rows):
    """Whether none of some rows has two integers of unlike signs."""
    return all([first * second >= 0 for first, second in rows])


def sum_of_quotients(top, bottom):
    """The sum of all quotients if two integers, not below 0, are divided by one another again and again."""
    total = 0
    while bottom > 0:
        total = total + top // bottom
        top, bottom = bottom, top % bottom
    return total


def distance(one, other):
    """The distance of two copies of `A2`, reckoned as [15.4] tells."""
    need_copies(one, other)
    if one.size != 2:
        raise InvalidOperation("only copies in two letters have a distance")
    if one == other:
        return 0
    between = multiplied(undone(one.matrix), other.matrix)
    bent = [multiplied(undone(bend), between) for bend in BENDS]
    led = [[image(matrix, ray) for ray in RAYS["A2"]] for matrix in bent]
    fitting = [rows for rows in led if have_like_signs(rows)][0]
    _, top, bottom = max([(abs(first + second), abs(first), abs(second)) for first, second in fitting])
    return sum_of_quotients(top, bottom)
