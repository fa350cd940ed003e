"""Rows, tables and matrices [0.8] to [0.10], [2.1]."""

import unittest

from ballgrids.errors import InvalidMatrix, InvalidNumber, InvalidOperation, InvalidRow, InvalidTable
from ballgrids.form import matrices
from ballgrids.form.matrices import (
    is_matrix, is_row, is_table, led_row, led_table, matrix_back, matrix_product, moved_table, normal_row, square,
    table_value, together, unit_matrix)
from tests.helper import (
    LONG, MOST, PLANE, WRONG, chance_of, lead, led, outcome, some_matrix, times, transposed, unit, value)

WRONG_ROWS = {
    2: ((1,), (1, 2, 3), (1, True), (1, LONG), [1, 2], (1, None), (1, (2,))),
    3: ((1, 2), (1, 2, 3, 4), (1, 2, False), (-LONG, 1, 1)),
    4: ((1, 2, 3), (1, 2, 3, 4, 5), (1, 2, 3, None))}
WRONG_TABLES = {
    2: (((1, 2), (3, 1)), ((1, 2),), ((1, 2), (2, 1), (0, 0)), ((LONG, 0), (0, 1)), ((1, 0, 0), (0, 1, 0)), ((1,), (1,))),
    3: (unit(2), unit(4), ((1, 2, 3), (2, 1, 1), (3, 0, 1)), ((1, 0, 0), (0, True, 0), (0, 0, 1))),
    4: (unit(3), unit(5), ((0, 0, 0, 1), (0, 0, 0, 0), (0, 0, 0, 0), (0, 0, 0, 0)))}
WRONG_MATRICES = {
    2: (((1, 2), (2, 4)), ((2, 0), (0, 1)), ((1, 0), (0, True)), unit(3), ((1, LONG), (0, 1)), ((0, 0), (0, 0))),
    3: (unit(2), unit(4), ((2, 0, 0), (0, 1, 0), (0, 0, 1)), ((1, 0, 0), (0, 1, 0), (0, 0, None))),
    4: (unit(3), unit(5), times(unit(4), ((1, 0, 0, 0), (0, 3, 0, 0), (0, 0, 1, 0), (0, 0, 0, 1))))}
NO_SIZE = {1: ((1,), ((1,),)), 5: ((1,) * 5, unit(5)), 0: ((), ())}


def symmetric(chance, size, most=5):
    lines = [[chance.randint(-most, most) for _ in range(size)] for _ in range(size)]
    return tuple(tuple(a + b for a, b in zip(row, column)) for row, column in zip(lines, zip(*lines)))


class Kinds(unittest.TestCase):
    def test_constant(self):
        self.assertEqual(matrices.SIZES, (2, 3, 4))

    def test_0_8_rows(self):
        for size in (2, 3, 4):
            for row in ((0,) * size, (MOST,) * size, (-MOST,) + (0,) * (size - 1)):
                self.assertIs(is_row(size, row), True)
            for wrong in WRONG_ROWS[size]:
                self.assertIs(is_row(size, wrong), False)

    def test_0_8_tables(self):
        for size in (2, 3, 4):
            for table in (unit(size), ((0,) * size,) * size, ((MOST,) * size,) * size, ((-1,) * size,) * size):
                self.assertIs(is_table(size, table), True)
            for wrong in WRONG_TABLES[size]:
                self.assertIs(is_table(size, wrong), False, wrong)

    def test_0_10_matrices(self):
        for size in (2, 3, 4):
            for matrix in (unit(size), unit(size)[::-1], transposed(unit(size)[1:] + unit(size)[:1])):
                self.assertIs(is_matrix(size, matrix), True)
            for wrong in WRONG_MATRICES[size]:
                self.assertIs(is_matrix(size, wrong), False)
        self.assertIs(is_matrix(2, ((1, MOST), (0, -1))), True)
        self.assertIs(is_matrix(2, ((1, -LONG), (0, 1))), False)
        self.assertIs(is_matrix(2, ((MOST, MOST - 1), (1, 1))), True)

    def test_0_5_every_value_is_judged(self):
        for call in (is_row, is_table, is_matrix):
            for size in (2, 3, 4):
                for wrong in WRONG:
                    self.assertIs(call(size, wrong), False, wrong)

    def test_sizes(self):
        for call in (is_row, is_table, is_matrix):
            for wrong in WRONG + (0, 1, 5, -2, (2,)):
                error = outcome(call, wrong, None)
                self.assertIs(type(error), InvalidNumber)
                self.assertIs(error.given, wrong)
        for wrong in WRONG + (0, 1, 5, -2, (2,)):
            error = outcome(unit_matrix, wrong)
            self.assertIs(type(error), InvalidNumber)
            self.assertIs(error.given, wrong)


class Reckoning(unittest.TestCase):
    def test_unit_matrix(self):
        for size in (2, 3, 4):
            self.assertEqual(unit_matrix(size), unit(size))

    def test_0_10_leading_and_moving(self):
        chance = chance_of(11)
        for size in (2, 3, 4) * 20:
            matrix, table = some_matrix(chance, size, 6, 3), symmetric(chance, size)
            row = tuple(chance.randint(-9, 9) for _ in range(size))
            self.assertEqual(led_row(matrix, row), lead(matrix, row))
            self.assertEqual(led_table(table, matrix), led(table, matrix))
            self.assertEqual(table_value(led_table(table, matrix), row), table_value(table, led_row(matrix, row)))
            self.assertEqual(moved_table(table, matrix), times(matrix, times(table, transposed(matrix))))
            self.assertEqual(moved_table(square(row), matrix), square(led_row(matrix, row)))
            self.assertTrue(is_table(size, led_table(table, matrix)))

    def test_2_1_products(self):
        chance = chance_of(12)
        for size in (2, 3, 4) * 20:
            one, other, table = [some_matrix(chance, size, 5, 3) for _ in range(2)] + [symmetric(chance, size)]
            row = tuple(chance.randint(-9, 9) for _ in range(size))
            both = matrix_product(one, other)
            self.assertEqual(both, times(one, other))
            self.assertEqual(led_row(both, row), led_row(one, led_row(other, row)))
            self.assertEqual(led_table(table, both), led_table(led_table(table, one), other))
            self.assertEqual(moved_table(table, both), moved_table(moved_table(table, other), one))

    def test_matrix_back(self):
        chance = chance_of(13)
        for size in (2, 3, 4) * 20:
            matrix = some_matrix(chance, size, 6, 4)
            self.assertEqual(matrix_product(matrix, matrix_back(matrix)), unit(size))
            self.assertEqual(matrix_product(matrix_back(matrix), matrix), unit(size))
        self.assertEqual(matrix_back(((1, MOST), (0, -1))), ((1, MOST), (0, -1)))
        self.assertEqual(matrix_back(((0, 1), (1, 0))), ((0, 1), (1, 0)))

    def test_normal_row(self):
        self.assertEqual([normal_row((0, -1)), normal_row((0, 1)), normal_row((-3, 5))], [(0, 1), (0, 1), (3, -5)])
        self.assertEqual(normal_row((0, 0, -MOST, MOST)), (0, 0, MOST, -MOST))
        self.assertEqual(normal_row((2, -4, 6)), (2, -4, 6))
        for size in (2, 3, 4):
            self.assertIs(type(outcome(normal_row, (0,) * size)), InvalidOperation)

    def test_0_9_square_and_together(self):
        chance = chance_of(14)
        for size in (2, 3, 4) * 10:
            row, table = tuple(chance.randint(-9, 9) for _ in range(size)), symmetric(chance, size)
            self.assertEqual(square(row), tuple(tuple(a * b for b in row) for a in row))
            self.assertEqual(together(table, square(row)), table_value(table, row))
            self.assertEqual(table_value(table, row), value(table, row))
            other = symmetric(chance, size)
            self.assertEqual(
                together(table, other), sum(table[i][j] * other[i][j] for i in range(size) for j in range(size)))
        self.assertEqual(square((0, 0)), ((0, 0), (0, 0)))
        self.assertEqual(led_row(((1, 1), (0, 1)), (0, 0)), (0, 0))

    def test_long_results(self):
        self.assertEqual(square((MOST, 1)), ((MOST * MOST, MOST), (MOST, 1)))
        self.assertEqual(table_value(((MOST, 0), (0, 0)), (MOST, 0)), MOST ** 3)
        self.assertEqual(matrix_product(((1, MOST), (0, 1)), ((1, MOST), (0, 1))), ((1, 2 * MOST), (0, 1)))
        matrix = ((1, MOST, 0), (0, 1, MOST), (0, 0, 1))
        self.assertEqual(matrix_back(matrix), ((1, -MOST, MOST * MOST), (0, 1, -MOST), (0, 0, 1)))

    def test_tables_need_not_be_positive(self):
        self.assertEqual(led_table(((0, 0), (0, -1)), ((1, 1), (0, 1))), ((0, 0), (0, -1)))
        self.assertEqual(moved_table(((0, 1), (1, 0)), ((0, 1), (1, 0))), ((0, 1), (1, 0)))
        self.assertEqual(table_value(((0, 1), (1, -3)), (1, 1)), -1)


class WrongArguments(unittest.TestCase):
    def check(self, call, arguments, error):
        self.assertIs(type(outcome(call, *arguments)), error, (call.__name__, arguments))

    def wrong_for(self, table, size):
        return WRONG + table[size]

    def firsts(self, place, *more):
        """Wrong ones where the argument tells the size itself; `place` tells rows from squares."""
        return WRONG + tuple(told[place] for told in NO_SIZE.values()) + more

    def test_one_row(self):
        for wrong in self.firsts(0, (1, True), (LONG, 1), (1, 2, 3, None), [1, 2]):
            self.check(normal_row, (wrong,), InvalidRow)
            self.check(square, (wrong,), InvalidRow)

    def test_one_matrix(self):
        for wrong in self.firsts(1, ((2, 0), (0, 1)), ((1, LONG), (0, 1)), ((1, 0), (0, True)), ((1, 0, 0), (0, 1, 0))):
            self.check(matrix_back, (wrong,), InvalidMatrix)

    def test_two_matrices(self):
        for wrong in self.firsts(1, ((2, 0), (0, 1)), ((1, LONG), (0, 1)), ((1, 0), (0, True)), ((1, 0, 0), (0, 1, 0))):
            for other in (unit(2), None):
                self.check(matrix_product, (wrong, other), InvalidMatrix)
        for size in (2, 3, 4):
            for wrong in self.wrong_for(WRONG_MATRICES, size):
                self.check(matrix_product, (unit(size), wrong), InvalidMatrix)

    def test_a_matrix_and_a_row(self):
        for wrong in self.firsts(1, ((2, 0), (0, 1)), ((1, LONG), (0, 1)), ((1, 0), (0, True)), ((1, 0, 0), (0, 1, 0))):
            for row in ((1, 2), None, (1,)):
                self.check(led_row, (wrong, row), InvalidMatrix)
        for size in (2, 3, 4):
            for wrong in self.wrong_for(WRONG_ROWS, size):
                self.check(led_row, (unit(size), wrong), InvalidRow)

    def test_a_table_and_a_matrix(self):
        for call in (led_table, moved_table):
            for wrong in self.firsts(1, ((1, 2), (3, 1)), ((LONG, 0), (0, 1)), ((1, 0), (0, True)), ((1, 0, 0), (0, 1, 0))):
                for matrix in (unit(2), None, ((2, 0), (0, 2))):
                    self.check(call, (wrong, matrix), InvalidTable)
            for size in (2, 3, 4):
                for wrong in self.wrong_for(WRONG_MATRICES, size):
                    self.check(call, (unit(size), wrong), InvalidMatrix)

    def test_a_table_and_a_row(self):
        for wrong in self.firsts(1, ((1, 2), (3, 1)), ((LONG, 0), (0, 1)), ((1, 0), (0, True)), ((1, 0, 0), (0, 1, 0))):
            for row in ((1, 2), None, (1,)):
                self.check(table_value, (wrong, row), InvalidTable)
        for size in (2, 3, 4):
            for wrong in self.wrong_for(WRONG_ROWS, size):
                self.check(table_value, (unit(size), wrong), InvalidRow)

    def test_two_tables(self):
        for wrong in self.firsts(1, ((1, 2), (3, 1)), ((LONG, 0), (0, 1)), ((1, 0), (0, True)), ((1, 0, 0), (0, 1, 0))):
            for other in (unit(2), None):
                self.check(together, (wrong, other), InvalidTable)
        for size in (2, 3, 4):
            for wrong in self.wrong_for(WRONG_TABLES, size):
                self.check(together, (unit(size), wrong), InvalidTable)

    def test_forms_are_no_tables(self):
        self.check(led_table, (PLANE, unit(2)), InvalidTable)
