"""Lists of lines [1.4], [1.5]."""

import unittest
from fractions import Fraction

from ballgrids.base import tables
from ballgrids.base.tables import determinant, echelon, kernel, product, rank, told_by
from ballgrids.errors import InvalidOperation, InvalidRow, InvalidTable, TooMany
from tests.helper import LONG, MOST, WRONG, chance_of, det, outcome, slow_rank, times, transposed, unit

WRONG_LISTS = WRONG + (
    ((),), ((1, 2), (1,)), ((1, 2), [1, 2]), [(1, 2)], ((1, True),), ((LONG,),), ((-LONG, 1),), ((1,),) * 41,
    ((1,) * 41,), ((1,) * 41,) * 2, (1, 2), ((1, None),), ((1, (2,)),))
ONE_LIST = (rank, echelon, kernel, determinant)


def some_lines(chance):
    """Lines with a rank that is often less than it could be."""
    height, width, inner = chance.randint(1, 5), chance.randint(1, 5), chance.randint(1, 4)
    one = [[chance.randint(-2, 2) for _ in range(inner)] for _ in range(height)]
    other = [[chance.randint(-3, 3) for _ in range(width)] for _ in range(inner)]
    return times(one, other)


def leads_of(lines):
    return [next(index for index, number in enumerate(line) if number) for line in lines]


class Tables(unittest.TestCase):
    def test_constants(self):
        self.assertEqual((tables.MAX_LINES, tables.MAX_DETERMINANT), (40, 6))

    def test_1_4_rank(self):
        chance = chance_of(4)
        for _ in range(120):
            lines = some_lines(chance)
            self.assertEqual(rank(lines), slow_rank(lines))
        self.assertEqual(rank(((0,),)), 0)
        self.assertEqual(rank(((0, 0, 7),)), 1)

    def test_1_5_echelon(self):
        chance = chance_of(5)
        for _ in range(200):
            lines = some_lines(chance)
            found = echelon(lines)
            self.check_echelon(lines, found)
            mixed = tuple(chance.sample(lines, len(lines)))
            doubled = tuple(tuple(-3 * number for number in line) for line in mixed) + mixed[:1]
            self.assertEqual(echelon(doubled), found)
            if found:
                self.assertEqual(echelon(found), found)

    def check_echelon(self, lines, found):
        self.assertEqual(len(found), rank(lines))
        if not found:
            return
        leads = leads_of(found)
        self.assertEqual(leads, sorted(set(leads)))
        for place, line in enumerate(found):
            self.assertIs(type(line), tuple)
            self.assertEqual(tables.rank((line,)), 1)
            self.assertGreater(line[leads[place]], 0)
            self.assertEqual(self.gcd_of(line), 1)
            for other, lead in enumerate(leads):
                self.assertEqual(line[lead] != 0, other == place)
        if len(lines + found) <= 40:
            self.assertEqual(rank(lines + found), len(found))


    def gcd_of(self, line):
        found = 0
        for number in line:
            number = abs(number)
            while number:
                found, number = number, found % number
        return found

    def test_echelon_of_zeros(self):
        self.assertEqual(echelon(((0,),)), ())
        self.assertEqual(echelon(((0, 0), (0, 0), (0, 0))), ())

    def test_echelon_far_behind(self):
        self.assertEqual(echelon(((0, 0, -4),)), ((0, 0, 1),))
        self.assertEqual(echelon(((0, 3, 6, 9), (0, 2, 4, 8))), ((0, 1, 2, 0), (0, 0, 0, 1)))

    def test_kernel(self):
        chance = chance_of(6)
        for _ in range(200):
            lines = some_lines(chance)
            found = kernel(lines)
            self.assertEqual(len(found), len(lines[0]) - rank(lines))
            for line in lines:
                for other in found:
                    self.assertEqual(sum(a * b for a, b in zip(line, other)), 0)
            if found:
                self.assertEqual(echelon(found), found)
        self.assertEqual(kernel(((0, 0, 0),)), unit(3))
        self.assertEqual(kernel(((5,),)), ())
        self.assertEqual(kernel(((0,),)), ((1,),))

    def test_determinant(self):
        chance = chance_of(7)
        for size in (1, 2, 3, 4, 5, 6):
            for _ in range(12):
                lines = tuple(tuple(chance.choice((0, 0, 1, -2, 5, -7)) for _ in range(size)) for _ in range(size))
                self.assertEqual(determinant(lines), det(lines))
        self.assertEqual(determinant(((-MOST, 1), (1, MOST))), -MOST * MOST - 1)
        self.assertEqual(determinant(unit(6)), 1)
        self.assertEqual(determinant(((0, 1), (1, 0))), -1)
        self.assertEqual(determinant(((0, 1, 0), (0, 0, 1), (1, 0, 0))), 1)

    def test_determinant_of_many_lines(self):
        for size in (7, 40):
            error = outcome(determinant, unit(size))
            self.assertIs(type(error), TooMany)
            self.assertEqual(error.most, 6)

    def test_determinant_that_is_not_square(self):
        for lines in (((1, 2),), ((1,), (2,)), unit(7)[:6], unit(7) + ((1,) * 7,), unit(41)):
            self.assertIs(type(outcome(determinant, lines)), InvalidTable)

    def test_product(self):
        chance = chance_of(8)
        for _ in range(50):
            height, inner, width = [chance.randint(1, 5) for _ in range(3)]
            one = tuple(tuple(chance.randint(-9, 9) for _ in range(inner)) for _ in range(height))
            other = tuple(tuple(chance.randint(-9, 9) for _ in range(width)) for _ in range(inner))
            self.assertEqual(product(one, other), times(one, other))
        self.assertEqual(product(((MOST,),), ((MOST,),)), ((MOST * MOST,),))
        self.assertEqual(product(((1,) * 40,), ((1,),) * 40), ((40,),))
        self.assertEqual(len(product(((1,),) * 40, ((1,) * 40,))), 40)

    def test_product_that_does_not_fit(self):
        for one, other in ((((1, 2),), ((1, 2),)), (((1,),), ((1,), (2,))), (unit(3), unit(2))):
            self.assertIs(type(outcome(product, one, other)), InvalidOperation)

    def test_told_by(self):
        chance = chance_of(9)
        for _ in range(200):
            lines = some_lines(chance)
            line = tuple(chance.randint(-3, 3) for _ in lines[0])
            if chance.random() < 0.6:
                line = times((tuple(chance.randint(-3, 3) for _ in lines),), lines)[0]
            if rank(lines) < len(lines):
                self.assertIs(type(outcome(told_by, lines, line)), InvalidOperation)
                continue
            found = told_by(lines, line)
            if rank(lines + (line,)) > len(lines):
                self.assertIsNone(found)
                continue
            scale, factors = found
            self.assertGreater(scale, 0)
            self.assertEqual(times((factors,), lines)[0], tuple(scale * number for number in line))
            self.assertEqual(self.gcd_of(factors + (scale,)), 1)

    def test_told_by_of_simple_lines(self):
        self.assertEqual(told_by(((3, 0),), (0, 0)), (1, (0,)))
        self.assertEqual(told_by(((6, 3),), (4, 2)), (3, (2,)))
        self.assertEqual(told_by(((6, 3),), (-4, -2)), (3, (-2,)))
        self.assertEqual(told_by(((-1, 1),), (2, -2)), (1, (-2,)))
        self.assertIsNone(told_by(((6, 3),), (4, 3)))

    def test_bounds(self):
        wide, high, both = ((7,) * 40,), ((7,),) * 40, tuple(
            tuple((row * column * column + row + column) % 11 for column in range(40)) for row in range(40))
        self.assertEqual([rank(wide), rank(high)], [1, 1])
        self.assertEqual([echelon(wide), echelon(high)], [((1,) * 40,), ((1,),)])
        self.assertEqual([len(kernel(wide)), kernel(high)], [39, ()])
        self.check_echelon(both, echelon(both))
        self.assertEqual(len(kernel(both)) + rank(both), 40)
        self.assertEqual(told_by(unit(40), (2,) * 40), (1, (2,) * 40))
        self.assertEqual(rank(((MOST, -MOST), (-MOST, MOST))), 1)
        self.assertEqual(echelon(((MOST, -MOST),)), ((1, -1),))

    def test_long_results(self):
        chance = chance_of(10)
        lines = tuple(tuple(chance.randint(-MOST, MOST) for _ in range(12)) for _ in range(9))
        found, zeros = echelon(lines), kernel(lines)
        self.assertEqual((len(found), len(zeros)), (9, 3))
        self.assertGreater(max(abs(number) for line in found for number in line), LONG)
        self.assertEqual(times(found, transposed(zeros)), ((0,) * 3,) * 9)
        scale, factors = told_by(transposed(transposed(lines)[:9]), (1,) * 9)
        told = times((factors,), transposed(transposed(lines)[:9]))[0]
        self.assertEqual(told, (scale,) * 9)
        self.assertEqual(Fraction(told[0], scale), 1)

    def test_forty_lines_of_sixty_digits(self):
        chance = chance_of(15)
        lines = tuple(tuple(chance.choice((-1, 1)) * chance.randint(LONG // 10, MOST) for _ in range(40)) for _ in range(40))
        self.assertEqual(rank(lines), 40)
        self.assertEqual(echelon(lines), unit(40))
        self.assertEqual(kernel(lines), ())
        zeros = kernel(lines[:38])
        self.assertEqual(len(zeros), 2)
        self.assertEqual(times(lines[:38], transposed(zeros)), ((0, 0),) * 38)
        self.assertIsNone(told_by(lines[:39], lines[39]))
        scale, factors = told_by(lines[:39], lines[5])
        self.assertEqual((scale, factors), (1, unit(39)[5]))

    def test_wrong_lists(self):
        for wrong in WRONG_LISTS:
            for call in ONE_LIST:
                self.assertIs(type(outcome(call, wrong)), InvalidTable, wrong)
            for other in (((1,),), None):
                self.assertIs(type(outcome(product, wrong, other)), InvalidTable)
                self.assertIs(type(outcome(told_by, wrong, other)), InvalidTable)
            self.assertIs(type(outcome(product, ((1,),), wrong)), InvalidTable)

    def test_wrong_lines(self):
        wrongs = WRONG + (
            (1,), (1, 2, 3), [1, 2], (1, True), (1, None), (LONG, 1), (1, -LONG), ((1, 2),), (True, False), 1)
        for wrong in wrongs:
            self.assertIs(type(outcome(told_by, ((1, 2),), wrong)), InvalidRow, wrong)
            # The lines are not free, but a wrong line comes first.
            self.assertIs(type(outcome(told_by, ((1, 2), (2, 4)), wrong)), InvalidRow, wrong)
        for lines in (((1, 2), (2, 4)), ((0, 0),), ((1,), (2,))):
            self.assertIs(type(outcome(told_by, lines, (1,) * len(lines[0]))), InvalidOperation)
