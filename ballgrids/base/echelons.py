"""Echelons of lines of integers of any length; nothing is checked here."""

from ballgrids.base.lines import cleared_line, dot, first_other_than_0, primitive, turned, without


def lead_steps(lines):
    """A pair of a column and a line for each step of the elimination.

    A line is 0 ahead of its column, and the columns ascend.
    """
    rest, found, scale = list(lines), [], 1
    for column in range(len(lines[0])):
        index = first_other_than_0([line[column] for line in rest])
        if index is None:
            continue
        pivot = rest[index]
        rest = [cleared_line(pivot, line, column, scale) for line in without(rest, index)]
        scale = pivot[column]
        found.append((column, pivot))
    return found


def spare_columns(steps, width):
    """The columns in which no step has its lead."""
    leads = [column for column, line in steps]
    return [column for column in range(width) if column not in leads]


def solved_steps(steps, spare):
    """For each step its numbers in the spare columns, if each lead is the last one's.

    All other numbers in the columns of the leads are 0 then. The last lead is the
    determinant of the columns of the leads, so that the divisions leave no remainder.
    """
    scale = steps[-1][1][steps[-1][0]]
    solved = []
    for index in range(len(steps) - 1, -1, -1):
        column, line = steps[index]
        factors = [line[lead] for lead, other in steps[index + 1:]]
        behind = [
            (scale * line[place] - dot(factors, [numbers[at] for numbers in solved])) // line[column]
            for at, place in enumerate(spare)
        ]
        solved = [behind] + solved
    return solved


def echelon_of(lines):
    """The echelon of the lines."""
    width = len(lines[0])
    steps = lead_steps(lines)
    if not steps:
        return ()
    spare = spare_columns(steps, width)
    scale = steps[-1][1][steps[-1][0]]
    made = []
    for step, numbers in zip(steps, solved_steps(steps, spare)):
        entries = dict(zip(spare, numbers))
        entries[step[0]] = scale
        made.append(primitive([entries.get(column, 0) for column in range(width)]))
    return tuple(made)


def kernel_of(lines):
    """The echelon of all lines that make 0 with each of these lines.

    The columns are taken backwards: then the line that belongs to a spare column has
    its lead there, and 0 in the other spare columns.
    """
    width = len(lines[0])
    steps = lead_steps([line[::-1] for line in lines])
    spare = spare_columns(steps, width)
    solved = solved_steps(steps, spare) if steps else []
    scale = steps[-1][1][steps[-1][0]] if steps else 1
    made = []
    for at, place in enumerate(spare):
        entries = {step[0]: -numbers[at] for step, numbers in zip(steps, solved)}
        entries[place] = scale
        made.append(primitive([entries.get(column, 0) for column in range(width)][::-1]))
    return tuple(made[::-1])


def mix_of(lines, line):
    """The pair of a scale and of factors by which free lines tell a line, or None.

    What makes 0 of the columns of all of them together tells each mix that the line is.
    """
    mixes = kernel_of(turned(lines + (line,)))
    if not mixes:
        return None
    factors, scale = mixes[0][:-1], mixes[0][-1]
    if scale > 0:
        return (scale, tuple([-factor for factor in factors]))
    return (-scale, factors)
