"""Reckoning with lines of integers of any length; nothing is checked here."""

from ballgrids.base.numbers import divisor_of


def dot(one, other):
    """The sum of the products of the numbers at equal indices."""
    return sum([first * second for first, second in zip(one, other)])


def turned(lines):
    """The lines with rows and columns exchanged."""
    return tuple(zip(*lines))


def multiplied(one, other):
    """The product of two lists of lines as matrices."""
    columns = turned(other)
    return tuple([tuple([dot(line, column) for column in columns]) for line in one])


def unit_lines(size):
    """The lines with 1 on the diagonal and 0 elsewhere."""
    return tuple([tuple([int(row == column) for column in range(size)]) for row in range(size)])


def first_other_than_0(numbers):
    """The index of the first number other than 0, or None."""
    for index, number in enumerate(numbers):
        if number != 0:
            return index
    return None


def without(things, index):
    """The things but the one with this index."""
    return things[:index] + things[index + 1:]


def primitive(line):
    """The multiple of a line that is not all 0 that can stand in an echelon."""
    divisor = divisor_of(line)
    if line[first_other_than_0(line)] < 0:
        divisor = -divisor
    return tuple([number // divisor for number in line])


def cleared_line(pivot, line, column, scale):
    """A line from which the pivot line is taken, so that it is 0 at the column.

    With the pivot of the step ahead as scale all numbers stay minors of the first
    lines (Bareiss), so that the division leaves no remainder.
    """
    ahead, behind = pivot[column], line[column]
    return [(ahead * number - behind * other) // scale for number, other in zip(line, pivot)]


def determinant_of_two(lines):
    """The determinant of two lines."""
    (first, second), (third, fourth) = lines
    return first * fourth - second * third


def determinant_of_three(lines):
    """The determinant of three lines, by the first one."""
    (first, second, third), one, other = lines
    return (
        first * (one[1] * other[2] - one[2] * other[1])
        - second * (one[0] * other[2] - one[2] * other[0])
        + third * (one[0] * other[1] - one[1] * other[0])
    )


def determinant_of_four(lines):
    """The determinant of four lines, by pairs of columns of the first two and of the last two lines."""
    one, two, three, four = lines
    return (
        (one[0] * two[1] - one[1] * two[0]) * (three[2] * four[3] - three[3] * four[2])
        - (one[0] * two[2] - one[2] * two[0]) * (three[1] * four[3] - three[3] * four[1])
        + (one[0] * two[3] - one[3] * two[0]) * (three[1] * four[2] - three[2] * four[1])
        + (one[1] * two[2] - one[2] * two[1]) * (three[0] * four[3] - three[3] * four[0])
        - (one[1] * two[3] - one[3] * two[1]) * (three[0] * four[2] - three[2] * four[0])
        + (one[2] * two[3] - one[3] * two[2]) * (three[0] * four[1] - three[1] * four[0])
    )


def determinant_of(lines):
    """The determinant of as many lines as they are wide; 1 if there are none."""
    size = len(lines)
    if size == 2:
        return determinant_of_two(lines)
    if size == 3:
        return determinant_of_three(lines)
    if size == 4:
        return determinant_of_four(lines)
    return eliminated_determinant(lines)


def eliminated_determinant(lines):
    """The determinant of any number of lines, by elimination."""
    rest, scale, sign = list(lines), 1, 1
    for column in range(len(lines)):
        index = first_other_than_0([line[column] for line in rest])
        if index is None:
            return 0
        pivot = rest[index]
        # Bringing the line with this index to the front moves it over so many others.
        sign = -sign if index & 1 else sign
        rest = [cleared_line(pivot, line, column, scale) for line in without(rest, index)]
        scale = pivot[column]
    return sign * scale


def leading_block(lines, many):
    """The first so many numbers of the first so many lines."""
    return tuple([tuple(line[:many]) for line in lines[:many]])


def minor(lines, row, column):
    """The determinant of the lines without a row and a column."""
    return determinant_of([without(line, column) for line in without(lines, row)])


def adjugate(lines):
    """The square that makes, as a product with these lines, the determinant on the diagonal."""
    size = len(lines)
    return tuple([
        tuple([(-1 if (row + column) & 1 else 1) * minor(lines, column, row) for column in range(size)])
        for row in range(size)
    ])
