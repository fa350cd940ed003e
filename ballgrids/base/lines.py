"""Reckoning with lines of integers of any length; nothing is checked here."""

from ballgrids.base.numbers import divisor_of

UNITS = {
    2: ((1, 0), (0, 1)),
    3: ((1, 0, 0), (0, 1, 0), (0, 0, 1)),
    4: ((1, 0, 0, 0), (0, 1, 0, 0), (0, 0, 1, 0), (0, 0, 0, 1)),
}


def dot(one, other):
    """The sum of the products of the numbers at equal indices."""
    return sum([first * second for first, second in zip(one, other)])


def turned(lines):
    """The lines with rows and columns exchanged."""
    return tuple(zip(*lines))


def multiplied(one, other):
    """The product of two lists of lines as matrices."""
    columns = turned(other)
    if len(other) == 4:
        return tuple([
            tuple([first * p + second * q + third * r + last * s for p, q, r, s in columns])
            for first, second, third, last in one
        ])
    if len(other) == 3:
        return tuple([
            tuple([first * p + second * q + last * r for p, q, r in columns]) for first, second, last in one
        ])
    if len(other) == 2:
        return tuple([tuple([first * p + last * q for p, q in columns]) for first, last in one])
    return tuple([tuple([dot(line, column) for column in columns]) for line in one])


def unit_lines(size):
    """The lines with 1 on the diagonal and 0 elsewhere, of the size 2, 3 or 4."""
    return UNITS[size]


def first_other_than_0(numbers):
    """The index of the first number other than 0, or None."""
    for index, number in enumerate(numbers):
        if number != 0:
            return index
    return None


def without(things, index):
    """The things but the one with this index."""
    return things[:index] + things[index + 1:]


def primitive(line):
    """The multiple of a line that is not all 0 that can stand in an echelon."""
    divisor = divisor_of(line)
    if line[first_other_than_0(line)] < 0:
        divisor = -divisor
    return tuple(line) if divisor == 1 else tuple([number // divisor for number in line])


def cleared_line(pivot, line, column, scale):
    """A line from which the pivot line is taken, so that it is 0 at the column.

    With the pivot of the step ahead as scale all numbers stay minors of the first
    lines (Bareiss), so that the division leaves no remainder.
    """
    ahead, behind = pivot[column], line[column]
    return [(ahead * number - behind * other) // scale for number, other in zip(line, pivot)]


def determinant_of_two(lines):
    """The determinant of two lines."""
    (first, second), (third, fourth) = lines
    return first * fourth - second * third


def determinant_of_three(lines):
    """The determinant of three lines, by the first one."""
    (first, second, third), one, other = lines
    return (
        first * (one[1] * other[2] - one[2] * other[1])
        - second * (one[0] * other[2] - one[2] * other[0])
        + third * (one[0] * other[1] - one[1] * other[0])
    )


def determinant_of_four(lines):
    """The determinant of four lines, by pairs of columns of the first two and of the last two lines."""
    ab, ac, ad, bc, bd, cd = pair_minors(lines[0], lines[1])
    ij, ik, il, jk, jl, kl = pair_minors(lines[2], lines[3])
    return ab * kl - ac * jl + ad * jk + bc * il - bd * ik + cd * ij


def determinant_of(lines):
    """The determinant of as many lines as they are wide; 1 if there are none."""
    size = len(lines)
    if size == 2:
        return determinant_of_two(lines)
    if size == 3:
        return determinant_of_three(lines)
    if size == 4:
        return determinant_of_four(lines)
    return eliminated_determinant(lines)


def eliminated_determinant(lines):
    """The determinant of any number of lines, by elimination."""
    rest, scale, sign = list(lines), 1, 1
    for column in range(len(lines)):
        index = first_other_than_0([line[column] for line in rest])
        if index is None:
            return 0
        pivot = rest[index]
        # Bringing the line with this index to the front moves it over so many others.
        sign = -sign if index & 1 else sign
        rest = [cleared_line(pivot, line, column, scale) for line in without(rest, index)]
        scale = pivot[column]
    return sign * scale


def leading_block(lines, many):
    """The first so many numbers of the first so many lines."""
    return tuple([tuple(line[:many]) for line in lines[:many]])


def adjugate(lines):
    """The square that makes, as a product with up to four lines, the determinant on the diagonal."""
    size = len(lines)
    if size == 4:
        return adjugate_of_four(lines)
    if size == 3:
        return adjugate_of_three(lines)
    if size == 2:
        (first, second), (third, fourth) = lines
        return ((fourth, -second), (-third, first))
    return ((1,),) if size == 1 else ()


def adjugate_of_three(lines):
    """The adjugate of three lines."""
    (a, b, c), (d, e, f), (g, h, i) = lines
    return (
        (e * i - f * h, c * h - b * i, b * f - c * e),
        (f * g - d * i, a * i - c * g, c * d - a * f),
        (d * h - e * g, b * g - a * h, a * e - b * d),
    )


def pair_minors(one, other):
    """The determinants of each two columns of two lines of four numbers, the first columns first."""
    a, b, c, d = one
    e, f, g, h = other
    return (a * f - b * e, a * g - c * e, a * h - d * e, b * g - c * f, b * h - d * f, c * h - d * g)


def adjugate_of_four(lines):
    """The adjugate of four lines, by pairs of columns of the first two and of the last two lines."""
    (a, b, c, d), (e, f, g, h), (i, j, k, l), (m, n, o, p) = lines
    ab, ac, ad, bc, bd, cd = pair_minors(lines[0], lines[1])
    ij, ik, il, jk, jl, kl = pair_minors(lines[2], lines[3])
    return (
        (f * kl - g * jl + h * jk, c * jl - b * kl - d * jk, n * cd - o * bd + p * bc, k * bd - j * cd - l * bc),
        (g * il - e * kl - h * ik, a * kl - c * il + d * ik, o * ad - m * cd - p * ac, i * cd - k * ad + l * ac),
        (e * jl - f * il + h * ij, b * il - a * jl - d * ij, m * bd - n * ad + p * ab, j * ad - i * bd - l * ab),
        (f * ik - e * jk - g * ij, a * jk - b * ik + c * ij, n * ac - m * bc - o * ab, i * bc - j * ac + k * ab),
    )
