"""Finding the matrices between two positive tables of any length; nothing is checked here.

Both tables are reduced first. Then a matrix between them leads each unit row to a row
with the same value as in the second table. The rows that belong to lesser numbers on
the diagonal are mixes of just as many of the first unit rows. So equal numbers on the
diagonal make a block of letters, and a matrix has only 0 below its blocks.
"""

from ballgrids.alike.blocks import Block, joined
from ballgrids.base.lines import determinant_of, leading_block, turned, unit_lines
from ballgrids.form.algebra import image, undone
from ballgrids.short.reducing import reduced_lattice
from ballgrids.short.search import shadows_of


def block_ends(table):
    """The pairs of the first index of a block of letters and of the one behind its last."""
    size = len(table)
    starts = [at for at in range(size) if at == 0 or table[at - 1][at - 1] < table[at][at]]
    return list(zip(starts, starts[1:] + [size]))


def columns_of_reduced(one, other, most=None):
    """For each matrix between two reduced tables the tuple of its columns; at most so many.

    Ahead of a block, fractions can be added to a column. So its letters are compared by
    the shadows of both tables, in which nothing of the letters ahead is left.
    """
    for index in range(len(one)):
        if one[index][index] != other[index][index]:
            return []
    if determinant_of(one) != determinant_of(other):
        return []
    blocks = block_ends(one)
    if len(blocks) == 1:
        return Block(one, other, most).found
    shadows, other_shadows = shadows_of(one), shadows_of(other)
    found = [()]
    for start, end in blocks:
        # Only if something fits ahead, the shadows of both tables have one scale.
        if found:
            first, second = shadows[start][1], other_shadows[start][1]
            behind = Block(leading_block(first, end - start), leading_block(second, end - start)).found
            found = joined(one, other, start, found, behind)
    return found[:most]


def led_columns(matrix, found):
    """For each tuple of lines the tuple of their images; equal lines are led just once."""
    told = {line: True for lines in found for line in lines}
    led = {line: image(matrix, line) for line in told}
    return [tuple([led[line] for line in lines]) for lines in found]


def matrices_of_tables(one, other, most=None):
    """The matrices between two positive tables, at most so many."""
    first, second = reduced_lattice(one), reduced_lattice(other)
    found = columns_of_reduced(first[0], second[0], most)
    unit = unit_lines(len(one))
    if first[1] != unit:
        found = led_columns(turned(first[1]), found)
    matrices = [turned(columns) for columns in found]
    if second[1] != unit:
        # Of a product with a matrix each row is led by that matrix with rows and columns exchanged.
        matrices = led_columns(turned(undone(turned(second[1]))), matrices)
    return matrices
