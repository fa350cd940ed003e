"""Spans [0.13], [0.17], [7.1] to [7.4]."""

import unittest
from itertools import combinations

from ballgrids.base.tables import echelon
from ballgrids.cone.told import NAMES, Copy, told_form
from ballgrids.errors import InvalidForm, InvalidNumber, InvalidOperation, InvalidRows
from ballgrids.form.forms import Form
from ballgrids.short.rows import density, least_rows
from ballgrids.span import spans
from ballgrids.span.spans import (
    base_of_zeros, blanks, is_blank, is_perfect, is_told_copy, rank_of_rows, rank_of_squares, table_by_values, told_copy)
from tests.helper import (
    BODY, CUBE, FACED, FORMS, FOURTH, GRID, LONG, MOST, PLANE, TWENTY_FOUR, WRONG, chance_of, far_matrix, inverse, led,
    many_forms, multiple, outcome, slow_rank, solved, some_matrix, some_table, square_of, sum_table, unit, uppers, value)

UPPERS = {2: 3, 3: 6, 4: 10}
SIZE = {"A2": 2, "A3": 3, "A4": 4, "D4": 4}


def some_rows(chance, size, count, most):
    return tuple(tuple(chance.randint(-most, most) for _ in range(size)) for _ in range(count))


def is_symmetric(table):
    return all(table[i][j] == table[j][i] for i in range(len(table)) for j in range(len(table)))


class Rows(unittest.TestCase):
    def test_7_1_rank(self):
        chance = chance_of(31)
        for number in range(60):
            size = 2 + number % 3
            rows = some_rows(chance, size, chance.randint(1, 5), 2)
            lines = [uppers(square_of(row)) for row in rows]
            self.assertEqual(rank_of_rows(size, rows), slow_rank(lines), rows)
        self.assertEqual(rank_of_rows(2, ((1, 0), (0, 1), (1, 1), (1, -1))), 3)
        self.assertEqual(rank_of_rows(4, ((0, 0, 0, 0),)), 0)
        self.assertEqual(rank_of_rows(3, ((1, 2, 3),) * 40), 1)
        self.assertEqual(rank_of_rows(3, ((1, 2, 3), (-1, -2, -3), (2, 4, 6))), 1)

    def test_7_2_base(self):
        chance = chance_of(32)
        for number in range(60):
            size = 2 + number % 3
            rows = some_rows(chance, size, chance.randint(1, UPPERS[size] + 1), 1 + number % 3)
            base = base_of_zeros(size, rows)
            self.assertEqual(len(base), UPPERS[size] - rank_of_rows(size, rows))
            self.assertIs(type(base), tuple)
            for table in base:
                self.assertTrue(is_symmetric(table))
                self.assertTrue(all(value(table, row) == 0 for row in rows))
            if base:
                lines = tuple(tuple(uppers(table)) for table in base)
                self.assertEqual(echelon(lines), lines)

    def test_base_of_rows_of_zeros(self):
        base = base_of_zeros(3, ((0, 0, 0),))
        self.assertEqual(len(base), 6)
        self.assertEqual(base[0], ((1, 0, 0), (0, 0, 0), (0, 0, 0)))
        self.assertEqual(base[1], ((0, 1, 0), (1, 0, 0), (0, 0, 0)))
        self.assertEqual(base[5], ((0, 0, 0), (0, 0, 0), (0, 0, 1)))
        self.assertEqual(base_of_zeros(2, ((1, 0), (0, 1), (1, 1))), ())
        self.assertEqual(base_of_zeros(2, ((1, 0), (0, 1), (0, 1))), (((0, 1), (1, 0)),))

    def test_7_3_table_by_values(self):
        chance = chance_of(33)
        for number in range(60):
            size = 2 + number % 3
            rows = some_rows(chance, size, UPPERS[size] + number % 2, 2)
            if rank_of_rows(size, rows) < UPPERS[size]:
                continue
            values = tuple(chance.randint(-5, 5) for _ in rows)
            self.check_table(size, rows, values)
            table = some_table(chance, size, 3)
            self.assertEqual(table_by_values(size, rows, tuple(value(table, row) for row in rows)), (table, 1))
            self.assertEqual(table_by_values(size, rows, (0,) * len(rows)), (multiple(unit(size), 0), 1))

    def check_table(self, size, rows, values):
        lines = [[(1 if i == j else 2) * row[i] * row[j] for i in range(size) for j in range(i, size)] for row in rows]
        entries, only = solved(lines, values)
        found = table_by_values(size, rows, values)
        if entries is None:
            self.assertIsNone(found)
            return
        self.assertTrue(only)
        table, scale = found
        self.assertGreaterEqual(scale, 1)
        self.assertEqual([entry * scale for entry in entries], uppers(table))
        self.assertTrue(all(value(table, row) == scale * number for row, number in zip(rows, values)))
        for less in range(1, min(scale, 50)):
            self.assertTrue(any((entry * less).denominator != 1 for entry in entries))

    def test_scales_and_signs(self):
        rows = ((1, 0), (0, 1), (1, 1))
        self.assertEqual(table_by_values(2, rows, (-2, -2, -3)), (((-4, 1), (1, -4)), 2))
        self.assertEqual(table_by_values(2, rows, (2, 2, 2)), (((2, -1), (-1, 2)), 1))
        self.assertEqual(table_by_values(2, rows, (0, 0, 1)), (((0, 1), (1, 0)), 2))
        self.assertEqual(table_by_values(2, ((3, 0), (0, 1), (1, 1)), (1, 0, 0)), (((2, -1), (-1, 0)), 18))
        self.assertIsNone(table_by_values(2, rows + ((2, 0),), (1, 1, 1, 5)))
        self.assertEqual(table_by_values(2, rows + ((2, 0), (0, 0)), (1, 1, 1, 4, 0))[1], 2)
        self.assertIsNone(table_by_values(2, rows + ((0, 0),), (1, 1, 1, 1)))

    def test_long_integers(self):
        chance = chance_of(34)
        for size in (2, 3, 4):
            rows = some_rows(chance, size, 40, MOST)
            self.assertEqual(rank_of_rows(size, rows), UPPERS[size])
            self.assertEqual(base_of_zeros(size, rows), ())
            few = rows[:UPPERS[size] - 1]
            (table,) = base_of_zeros(size, few)
            self.assertTrue(all(value(table, row) == 0 for row in few))
            values = tuple(chance.randint(-MOST, MOST) for _ in range(UPPERS[size]))
            told, scale = table_by_values(size, rows[:UPPERS[size]], values)
            self.assertTrue(all(value(told, row) == scale * number for row, number in zip(rows, values)))


class Forms(unittest.TestCase):
    def test_ranks(self):
        for form in many_forms(35, 25):
            rows = least_rows(form)
            lines = [uppers(square_of(row)) for row in rows]
            self.assertEqual(rank_of_squares(form), len(lines) - len(solved_kernel(lines)))
            self.assertIs(is_perfect(form), rank_of_squares(form) == UPPERS[form.size])
            self.assertEqual(blanks(form), base_of_zeros(form.size, rows))
            self.assertEqual(len(blanks(form)), UPPERS[form.size] - rank_of_squares(form))

    def test_7_3_perfect_forms(self):
        chance = chance_of(36)
        for name in NAMES:
            form = told_form(name)
            for told in (form, form * 7, form.led(some_matrix(chance, form.size, 5, 3)) * 2, form * (MOST // 2)):
                self.assertIs(is_perfect(told), True)
                self.assertEqual(blanks(told), ())
                self.assertEqual(rank_of_squares(told), UPPERS[form.size])
                rows = least_rows(told)
                table, scale = table_by_values(form.size, rows, (told.value(rows[0]),) * len(rows))
                self.assertEqual((table, scale), (told.table, 1))
        self.assertEqual([len(least_rows(told_form(name))) for name in NAMES], [3, 6, 10, 12])
        for form in (CUBE, BODY, GRID, Form.diagonal(1, 1), Form.diagonal(2, 2, 2, 3)):
            self.assertIs(is_perfect(form), False)

    def test_0_17_perfect_or_denser(self):
        # Near a form that is not perfect a blank table leads to a denser one.
        for form in (CUBE, BODY, GRID, Form.diagonal(1, 2)):
            table = blanks(form)[0]
            raised = Form(sum_table([multiple(form.table, 1000), table]))
            lowered = Form(sum_table([multiple(form.table, 1000), multiple(table, -1)]))
            best = max(density(raised), density(lowered), key=lambda told: told[0] / told[1])
            self.assertGreater(best[0] * density(form)[1], density(form)[0] * best[1])

    def test_is_blank(self):
        for form in many_forms(37, 12):
            base = blanks(form)
            zeros = multiple(unit(form.size), 0)
            self.assertIs(is_blank(form, zeros), False)
            self.assertIs(is_blank(form, form.table), False)
            for table in base:
                self.assertIs(is_blank(form, table), True)
                self.assertIs(is_blank(form, multiple(table, -10 ** 200)), True)
                self.assertIs(is_blank(form, list(table)), False)
                self.assertIs(is_blank(form, tuple(map(list, table))), False)
                self.assertIs(is_blank(form, table + (table[0],)), False)
                self.assertIs(is_blank(form, sum_table([table, form.table])), False)
            if len(base) > 1:
                self.assertIs(is_blank(form, sum_table(base, range(1, len(base) + 1))), True)
        skew = ((0, 1, 0), (-1, 0, 0), (0, 0, 0))
        self.assertIs(is_blank(CUBE, skew), False)
        self.assertIs(is_blank(CUBE, ((0, True, 0), (True, 0, 0), (0, 0, 0))), False)
        self.assertIs(is_blank(CUBE, ((0, 1), (1, 0))), False)
        self.assertIs(is_blank(PLANE, ((0, 1), (1, 0))), False)

    def test_far_forms(self):
        chance = chance_of(38)
        for form in (GRID, TWENTY_FOUR, BODY, PLANE, CUBE):
            matrix = far_matrix(chance, form.size, 28)
            far = form.led(matrix)
            self.assertEqual(rank_of_squares(far), rank_of_squares(form))
            self.assertEqual(len(blanks(far)), len(blanks(form)))
            for table in blanks(far):
                self.assertTrue(is_blank(far, table))
                self.assertTrue(is_blank(form, led(table, inverse(matrix))))


def solved_kernel(lines):
    """The lines that are mixes of the ones ahead of them."""
    found, kept = [], []
    for line in lines:
        if kept and solved(list(zip(*kept)), line)[0] is not None:
            found.append(line)
        else:
            kept.append(line)
    return found


class ToldCopies(unittest.TestCase):
    def test_told_copy(self):
        chance = chance_of(39)
        for name in NAMES:
            for number in (1, 2, 3, 12, 10 ** 20):
                form = told_form(name).led(some_matrix(chance, SIZE[name], 5, 3)) * number
                copy, told = told_copy(form)
                self.assertEqual((copy.name, told), (name, number))
                self.assertEqual(told, form.content)
                self.assertEqual(copy.form * number, form)
                self.assertIs(is_told_copy(form, (copy, told)), True)
                self.assertIs(type(told_copy(form)), tuple)
                self.assertIs(type(copy), Copy)

    def test_far_forms(self):
        chance = chance_of(40)
        for name in NAMES:
            matrix = far_matrix(chance, SIZE[name], 18)
            form = told_form(name).led(matrix)
            copy, number = told_copy(form)
            self.assertTrue(is_told_copy(form, (copy, number)))
            self.assertTrue(is_told_copy(form, (Copy(name, inverse(matrix)), 1)))
            far = told_form(name).led(far_matrix(chance, SIZE[name], 29))
            self.assertLess(max(abs(n) for row in told_copy(far)[0].matrix for n in row), 10 ** 400)
            further = far.led(far_matrix(chance, SIZE[name], 60)).led(far_matrix(chance, SIZE[name], 60))
            self.assertTrue(is_told_copy(further, told_copy(further)))
            self.assertGreater(max(abs(n) for row in told_copy(further)[0].matrix for n in row), 10 ** 100)

    def test_no_copy(self):
        for form in (CUBE, BODY, GRID, Form.diagonal(1, 1), Form.diagonal(5, 5, 5, 7)):
            self.assertIsNone(told_copy(form))
            for name in NAMES:
                self.assertIs(is_told_copy(form, (Copy(name, unit(SIZE[name])), 1)), False)
            self.assertIs(is_told_copy(form, None), False)

    def test_judging(self):
        for name in NAMES:
            form = told_form(name) * 3
            copy = Copy(name, unit(SIZE[name]))
            self.assertIs(is_told_copy(form, (copy, 3)), True)
            for wrong in ((copy, 1), (copy, -3), (copy, 0), (copy, 3, 3), (copy,), [copy, 3], (3, copy), (copy, None),
                          (copy, "3"), (copy.form, 3), (copy.matrix, 3), copy, ((copy, 3),), (copy, 10 ** 99)):
                self.assertIs(is_told_copy(form, wrong), False)
            for wrong in WRONG:
                self.assertIs(is_told_copy(form, wrong), False)
                self.assertIs(is_told_copy(form, (wrong, 3)), False)
                self.assertIs(is_told_copy(form, (copy, wrong)), False)
            self.assertIs(is_told_copy(told_form(name), (copy, True)), False)
            self.assertIs(is_told_copy(told_form(name), (copy, 1)), True)
            self.assertIs(is_told_copy(form, (copy.led(((1, 1) + (0,) * (SIZE[name] - 2),) + unit(SIZE[name])[1:]), 3)), False)
        self.assertIs(is_told_copy(FOURTH, (Copy("D4", unit(4)), 1)), False)
        self.assertIs(is_told_copy(FACED, (Copy("A2", unit(2)), 1)), False)


class Errors(unittest.TestCase):
    WRONG_ROWS = tuple(wrong for wrong in WRONG if wrong != (LONG, 1)) + (
        (), ((1, 0),) * 41, [(1, 0)], ((1, 0), (1, 0, 0)), ((1, 0), [0, 1]), ((1, LONG),), ((1, True),), (1, 0), ((1, 0), 1))

    def check(self, call, arguments, kind, given=None):
        error = outcome(call, *arguments)
        self.assertIs(type(error), kind, (call, arguments))
        if kind is InvalidNumber:
            self.assertIs(error.given, given)

    def test_bounds(self):
        for size in (2, 3, 4):
            rows = ((MOST,) + (-MOST,) * (size - 1),)
            for count in (1, 40):
                self.assertEqual(rank_of_rows(size, rows * count), 1)
                self.assertEqual(len(base_of_zeros(size, rows * count)), UPPERS[size] - 1)
                self.check(table_by_values, (size, rows * count, (1,) * count), InvalidOperation)
            for count in (0, 41):
                self.check(rank_of_rows, (size, rows * count), InvalidRows)
                self.check(base_of_zeros, (size, rows * count), InvalidRows)
                self.check(table_by_values, (size, rows * count, (1,) * count), InvalidRows)
        self.assertEqual(spans.MAX_SPANNED, 40)
        rows = ((1, 0), (0, 1), (1, 1)) * 13
        self.assertEqual(table_by_values(2, rows + ((0, 0),), (1, 1, 1) * 13 + (0,)), (((2, -1), (-1, 2)), 2))

    def test_wrong_sizes_first(self):
        for wrong in WRONG + (0, 1, 5, -2, 2.5):
            for call in (rank_of_rows, base_of_zeros):
                self.check(call, (wrong, ((1, 0),)), InvalidNumber, wrong)
                self.check(call, (wrong, None), InvalidNumber, wrong)
            self.check(table_by_values, (wrong, None, None), InvalidNumber, wrong)

    def test_wrong_rows(self):
        for wrong in self.WRONG_ROWS:
            if wrong == (((1, 0), (0, 1)),):
                continue
            for call in (rank_of_rows, base_of_zeros):
                self.check(call, (2, wrong), InvalidRows)
            self.check(table_by_values, (2, wrong, None), InvalidRows)
            self.check(table_by_values, (2, wrong, (1,)), InvalidRows)
        for size in (3, 4):
            self.check(rank_of_rows, (size, ((1, 0),)), InvalidRows)

    def test_wrong_values(self):
        rows = ((1, 0), (0, 1), (1, 1))
        for wrong in WRONG + ((1, 1), (1, 1, 1, 1), (1, 1, True), (1, 1, None), [1, 1, 1], (1, 1, LONG), "111"):
            self.check(table_by_values, (2, rows, wrong), InvalidOperation)
            self.check(table_by_values, (2, rows[:2], wrong), InvalidOperation)
        self.check(table_by_values, (2, rows[:2], (1, 1)), InvalidOperation)
        self.check(table_by_values, (2, ((0, 0),), (0,)), InvalidOperation)
        self.check(table_by_values, (4, unit(4), (1, 1, 1, 1)), InvalidOperation)

    def test_wrong_forms(self):
        for wrong in WRONG:
            if isinstance(wrong, Form):
                continue
            for call in (rank_of_squares, is_perfect, blanks, told_copy):
                self.check(call, (wrong,), InvalidForm)
            for call in (is_blank, is_told_copy):
                self.check(call, (wrong, ((0, 1), (1, 0))), InvalidForm)
                self.check(call, (wrong, None), InvalidForm)
        for call in (rank_of_squares, blanks, told_copy):
            self.check(call, (Copy.first(2),), InvalidForm)

    def test_judged_values(self):
        for form in FORMS:
            for wrong in WRONG:
                self.assertIs(is_blank(form, wrong), False)
                self.assertIs(is_told_copy(form, wrong), False)

    def test_nothing_changes(self):
        for form in FORMS:
            before = str(form)
            for call in (rank_of_squares, is_perfect, blanks):
                self.assertEqual(call(form), call(form))
            self.assertEqual(str(told_copy(form)), str(told_copy(form))) if not is_perfect(form) else None
            self.assertEqual(str(form), before)
        for name in NAMES:
            one, other = told_copy(told_form(name)), told_copy(told_form(name))
            self.assertTrue(one == other and one[0].matrix == other[0].matrix)


class Untrue(unittest.TestCase):
    def test_7_4_more_rows_that_span(self):
        rows = least_rows(TWENTY_FOUR)
        self.assertGreater(len(rows), 10)
        self.assertTrue(is_perfect(TWENTY_FOUR))
        ranks = {rank_of_rows(4, chosen) for chosen in combinations(rows, 10)}
        self.assertIn(9, ranks)
        self.assertIn(10, ranks)

    def test_7_4_independent_rows(self):
        base = base_of_zeros(3, unit(3))
        self.assertEqual(len(base), 3)
        self.assertTrue(all(value(base[0], row) == 0 for row in unit(3)))
