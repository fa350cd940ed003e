"""Echelons of lines of integers of any length; nothing is checked here."""

from ballgrids.base.lines import first_other_than_0, primitive, turned


def cleared_lines(lines, leads, index, scale):
    """The other lines, from which the one with the index is taken, so that their leads become 0.

    With the lead of the step ahead as scale all numbers stay minors of the first lines
    (Bareiss), so that the division leaves no remainder.
    """
    pivot, ahead = lines[index], leads[index]
    found = []
    for at, (line, lead) in enumerate(zip(lines, leads)):
        if at == index:
            continue
        if lead != 0:
            found.append([(ahead * number - lead * other) // scale for number, other in zip(line, pivot)])
        elif ahead != scale:
            found.append([ahead * number // scale for number in line])
        else:
            found.append(line)
    return found


def lead_steps(lines):
    """A pair of a column and a line for each step of the elimination.

    A line is 0 ahead of its column, and the columns ascend.
    """
    rest, found, scale = lines, [], 1
    for column in range(len(lines[0])):
        leads = [line[column] for line in rest]
        index = first_other_than_0(leads)
        if index is not None:
            found.append((column, rest[index]))
            rest = cleared_lines(rest, leads, index, scale)
            scale = leads[index]
    return found


def last_lead(steps):
    """The lead of the last step: the determinant of the columns of the leads; 1 if there is no step."""
    if not steps:
        return 1
    column, line = steps[-1]
    return line[column]


def spare_columns(steps, width):
    """The columns in which no step has its lead."""
    leads = {column: True for column, line in steps}
    return [column for column in range(width) if column not in leads]


def solved_steps(steps, spare):
    """For each step, the last one first, its column and its numbers in the spare columns, if all leads are equal.

    They are the last one's then, and all other numbers in the columns of the leads are 0. As
    the last lead is the determinant of these columns, the divisions leave no remainder.
    """
    scale = last_lead(steps)
    solved = []
    for index in range(len(steps) - 1, -1, -1):
        column, line = steps[index]
        numbers = [scale * line[place] for place in spare]
        for further, told in solved:
            factor = line[further]
            if factor != 0:
                numbers = [number - factor * other for number, other in zip(numbers, told)]
        lead = line[column]
        solved.append((column, [number // lead for number in numbers]))
    return solved


def echelon_of(lines):
    """The echelon of the lines."""
    width = len(lines[0])
    steps = lead_steps(lines)
    spare = spare_columns(steps, width)
    scale = last_lead(steps)
    made = []
    for column, numbers in solved_steps(steps, spare):
        line = [0] * width
        line[column] = scale
        for place, number in zip(spare, numbers):
            line[place] = number
        made.append(primitive(line))
    return tuple(made[::-1])


def kernel_lines(steps, spare, width):
    """For each spare column of some steps the line that makes 0 with all of them, and has 0 in the other spare ones.

    The steps are those of lines that were turned around; so is what is made here.
    """
    scale, solved = last_lead(steps), solved_steps(steps, spare)
    made = []
    for at, place in enumerate(spare):
        line = [0] * width
        line[place] = scale
        for column, numbers in solved:
            line[column] = -numbers[at]
        made.append(primitive(line[::-1]))
    return made


def kernel_of(lines):
    """The echelon of all lines that make 0 with each of these lines.

    The columns are taken backwards: then the line that belongs to a spare column has
    its lead there, and 0 in the other spare columns.
    """
    width = len(lines[0])
    steps = lead_steps([line[::-1] for line in lines])
    return tuple(kernel_lines(steps, spare_columns(steps, width), width)[::-1])


def last_of_kernel(lines):
    """The last line of the kernel, or None if there is none.

    Only the steps up to the first spare column are made.
    """
    width = len(lines[0])
    rest, steps, scale = [line[::-1] for line in lines], [], 1
    for column in range(width):
        leads = [line[column] for line in rest]
        index = first_other_than_0(leads)
        if index is None:
            return kernel_lines(steps, [column], width)[0]
        steps.append((column, rest[index]))
        rest = cleared_lines(rest, leads, index, scale)
        scale = leads[index]
    return None


def mix_of(lines, line):
    """The pair of a scale and of factors by which free lines tell a line, or None.

    The factors solve as many equations as the line has numbers.
    """
    many = len(lines)
    steps = lead_steps(turned(lines + (line,)))
    if steps[-1][0] == many:
        return None
    factors = [numbers[0] for column, numbers in solved_steps(steps, [many])][::-1]
    made = primitive([last_lead(steps)] + factors)
    return (made[0], made[1:])
