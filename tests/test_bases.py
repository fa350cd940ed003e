"""Reduced forms, successive least values and bases [3.1] to [3.5]."""

import unittest
from itertools import product

from ballgrids.alike.alikes import are_alike
from ballgrids.errors import InvalidForm, InvalidNumber, InvalidOperation
from ballgrids.form.forms import Form
from ballgrids.short.bases import (
    is_basis, is_reduced, is_reducing, is_successive, least_form, reduced, successive_values)
from tests.helper import (
    BODY, CUBE, FACED, FORMS, GRID, LONG, MOST, PLANE, TWENTY_FOUR, WRONG, chance_of, det, led, many_forms, outcome,
    rows_below, sign_rows, slow_matrices, slow_reduced, slow_successive, some_matrix, times, transposed, unit, value)

# Grids that tempt a reduction to go wrong: lines far off the diagonal, or far apart in length.
FAR_TABLES = (
    ((10 ** 59, 10 ** 59 - 1), (10 ** 59 - 1, 10 ** 59)),
    ((1, 10 ** 29), (10 ** 29, 10 ** 58 + 1)),
    times(((1, 0, 0), (10 ** 29, 1, 0), (1, 10 ** 29, 1)), transposed(((1, 0, 0), (10 ** 29, 1, 0), (1, 10 ** 29, 1)))),
    times(((10 ** 28, 1, 0), (7 ** 30, 0, 1), (3 ** 50, 0, 0)),
          transposed(((10 ** 28, 1, 0), (7 ** 30, 0, 1), (3 ** 50, 0, 0)))),
)


def knapsack(numbers):
    """A table whose form has its short rows far from the unit rows."""
    size = len(numbers)
    lines = tuple((number,) + tuple(int(i == j) for j in range(size)) for i, number in enumerate(numbers))
    return times(lines, transposed(lines))


FAR = tuple(Form(table) for table in FAR_TABLES) + (
    Form(knapsack((10 ** 29, 7 ** 33, 3 ** 60))), Form(knapsack((10 ** 29, 7 ** 33, 3 ** 60, 2 ** 97))),
    Form(knapsack((MOST // 10 ** 31,) * 4)), Form.diagonal(1, 1, 1, MOST), Form.diagonal(MOST, 10 ** 20, 1, 10 ** 40))


class Reducing(unittest.TestCase):
    def test_3_1_is_reduced(self):
        for size, most in ((2, 4), (3, 2)):
            self.check_small_tables(size, most)
        for form in many_forms(31, 60, 2) + list(FAR):
            self.assertIs(is_reduced(form), slow_reduced(form.table))
        self.assertTrue(all(is_reduced(form) for form in FORMS))
        self.assertFalse(is_reduced(Form.diagonal(2, 1)))
        self.assertFalse(is_reduced(Form.diagonal(1, 1, 3, 2)))
        self.assertFalse(is_reduced(Form(((2, 0, 0, 1), (0, 2, 0, 1), (0, 0, 2, 2), (1, 1, 2, 4)))))
        # Only the row (1, 1, 1, 1) shows that this one is not reduced.
        table = ((20, -5, -5, -6), (-5, 20, -5, -6), (-5, -5, 20, -6), (-6, -6, -6, 21))
        low = [row for i in range(4) for row in sign_rows(4, i) if value(table, row) < table[i][i]]
        self.assertEqual(low, [(1, 1, 1, 1)])
        self.assertFalse(is_reduced(Form(table)))
        self.assertTrue(is_reduced(Form(((10, 0, 0, -5), (0, 10, 0, -5), (0, 0, 10, -5), (-5, -5, -5, 11)))))

    def check_small_tables(self, size, most):
        places = [(i, j) for i in range(size) for j in range(i, size)]
        for entries in product(range(-most, most + 1), repeat=len(places)):
            told = dict(zip(places, entries))
            table = tuple(tuple(told[min(i, j), max(i, j)] for j in range(size)) for i in range(size))
            form = outcome(Form, table)
            if isinstance(form, Form):
                self.assertIs(is_reduced(form), slow_reduced(table), table)

    def test_3_1_each_form_is_alike_to_a_reduced_one(self):
        chance = chance_of(32)
        forms = many_forms(33, 60) + list(FAR)
        for base in FORMS:
            forms.append(base.led(some_matrix(chance, base.size, 12, 10 ** 6)))
            forms.append(base.led(some_matrix(chance, base.size, 6, 10 ** 9)) * 10 ** 20)
        for form in forms:
            found, matrix = reduced(form)
            self.assertIs(type(found), Form)
            self.assertTrue(slow_reduced(found.table))
            self.assertIn(det(matrix), (1, -1))
            self.assertEqual(led(form.table, matrix), found.table)
            self.assertIs(is_reducing(form, matrix), True)
            self.assertIs(is_basis(form.size, transposed(matrix)), True)
            self.assertIs(is_successive(form, transposed(matrix)), True)
            self.assertTrue(all(abs(number) < 10 ** 400 for row in matrix for number in row))
            self.assertIs(type(reduced(form)), tuple)
            self.assertEqual(reduced(form), (found, matrix))

    def test_is_reducing_accepts_every_right_matrix(self):
        chance = chance_of(34)
        right = wrong = 0
        for form in many_forms(35, 12, 2):
            for _ in range(20):
                matrix = some_matrix(chance, form.size, 2, 1)
                expected = slow_reduced(led(form.table, matrix))
                self.assertIs(is_reducing(form, matrix), expected)
                right, wrong = right + expected, wrong + (not expected)
        self.assertGreater(min(right, wrong), 50)
        far = PLANE
        for _ in range(3):
            far = far.led(((1, MOST), (0, 1)))
        self.assertIs(is_reducing(far, ((1, -3 * MOST), (0, 1))), True)
        self.assertIs(is_reducing(far, ((1, -3 * MOST + 2), (0, 1))), False)
        self.assertIs(is_reducing(far, ((1, -3 * MOST), (0, True))), False)
        self.assertIs(is_reducing(CUBE, ((2, 0, 0), (0, 1, 0), (0, 0, 1))), False)
        self.assertIs(is_reducing(Form.diagonal(4, 1), ((0, 1), (1, 0))), True)
        self.assertIs(is_reducing(Form.diagonal(4, 1), ((0, 1), (2, 0))), False)


class Successive(unittest.TestCase):
    def test_3_2_values(self):
        for form in many_forms(36, 60):
            values = successive_values(form)
            self.assertEqual(values, slow_successive(reduced(form)[0].table))
            self.assertEqual(values, tuple(reduced(form)[0].table[i][i] for i in range(form.size)))
            whole, top = 1, {2: (4, 3), 3: (2, 1), 4: (4, 1)}[form.size]
            for number in values:
                whole *= number
            self.assertLessEqual(form.determinant, whole)
            self.assertLessEqual(whole * top[1], form.determinant * top[0])
        self.assertEqual(successive_values(Form.diagonal(MOST, 10 ** 20, 1, 10 ** 40)), (1, 10 ** 20, 10 ** 40, MOST))
        self.assertEqual(successive_values(Form.diagonal(5, 3, 5)), (3, 5, 5))
        self.assertEqual(successive_values(TWENTY_FOUR * 7), (14,) * 4)

    def test_3_2_values_of_forms_that_are_not_reduced(self):
        chance = chance_of(37)
        for base in FORMS + (Form.diagonal(1, 2, 3), Form.diagonal(1, 5), Form.diagonal(1, 2, 2, 7)):
            told = slow_successive(base.table)
            for matrix in (some_matrix(chance, base.size, 3, 1), some_matrix(chance, base.size, 8, 10 ** 7)):
                self.assertEqual(successive_values(base.led(matrix)), told)

    def test_3_2_a_form_whose_diagonal_they_are_is_reduced(self):
        for form in many_forms(38, 30, 2):
            diagonal = tuple(form.table[i][i] for i in range(form.size))
            if diagonal == successive_values(form):
                self.assertTrue(is_reduced(form))

    def test_3_3_independent_rows(self):
        halves = 0
        for form in (PLANE, CUBE, BODY, FACED, GRID, TWENTY_FOUR, Form.diagonal(1, 2, 2), Form.diagonal(1, 1, 2, 2)):
            values = successive_values(form)
            known = rows_below(form.table, values[-1])
            for rows in product(*[[row for number, row in known if number == value] for value in values]):
                self.assertIs(is_successive(form, rows), det(rows) != 0)
                if det(rows) != 0 and form is not TWENTY_FOUR:
                    self.assertIs(is_basis(form.size, rows), True)
                if abs(det(rows)) == 2:
                    halves += 1
        self.assertGreater(halves, 0)

    def test_is_successive(self):
        self.assertIs(is_successive(Form.diagonal(1, 2), ((-1, 0), (0, 1))), True)
        self.assertIs(is_successive(Form.diagonal(1, 2), ((0, 1), (1, 0))), False)
        self.assertIs(is_successive(Form.diagonal(1, 2), ((1, 0), (1, 0))), False)
        self.assertIs(is_successive(Form.diagonal(1, 2), ((1, 0), (1, 1))), False)
        self.assertIs(is_successive(CUBE, ((1, 0, 0), (0, 1, 0), (1, 0, 0))), False)
        self.assertIs(is_successive(CUBE, ((1, 0, 0), (0, 1, 0))), False)
        self.assertIs(is_successive(CUBE, ((1, 0, 0), (0, 1, 0), (0, 0, True))), False)
        far = PLANE
        for _ in range(3):
            far = far.led(((1, MOST), (0, 1)))
        self.assertIs(is_successive(far, ((1, 0), (-3 * MOST, 1))), True)
        self.assertIs(is_successive(far, ((1, 0), (2 - 3 * MOST, 1))), False)

    def test_is_basis(self):
        self.assertIs(is_basis(2, ((1, LONG), (0, -1))), True)
        self.assertIs(is_basis(2, ((10 ** 99, 1), (10 ** 99 - 1, 1))), True)
        self.assertIs(is_basis(3, unit(3)), True)
        self.assertIs(is_basis(2, ((1, 1), (1, -1))), False)
        self.assertIs(is_basis(2, unit(3)), False)
        self.assertIs(is_basis(4, ((1, 0, 0, 0), (0, 1, 0, 0), (0, 0, 1, 0), (0, 0, 0, True))), False)


class LeastForms(unittest.TestCase):
    def test_3_4_least_forms(self):
        chance = chance_of(39)
        known = []
        for number in range(60):
            form = [form for form in many_forms(40 + number % 5, 6) if form.size == 2][number % 3]
            known.append(form.led(some_matrix(chance, 2, 4, 3)))
        for form in known:
            (a, b), (c, d) = least_form(form).table
            self.assertEqual(b, c)
            self.assertTrue(0 <= 2 * b <= a <= d)
            self.assertTrue(are_alike(form, least_form(form)))
            self.assertEqual(least_form(least_form(form)), least_form(form))
            for other in known[:12]:
                self.assertEqual(are_alike(form, other), least_form(form) == least_form(other))

    def test_only_in_two_letters(self):
        for form in FORMS:
            if form.size == 2:
                self.assertEqual(least_form(form), PLANE)
            else:
                self.assertIs(type(outcome(least_form, form)), InvalidOperation)


class Untrue(unittest.TestCase):
    def test_3_5_one_reduced_form(self):
        one, other = FACED, Form(((2, 1, 0), (1, 2, 1), (0, 1, 2)))
        self.assertTrue(is_reduced(one) and is_reduced(other) and are_alike(one, other) and one != other)

    def test_3_5_equal_diagonals_and_determinants(self):
        one, other = Form(((4, 0, 0), (0, 9, 3), (0, 3, 9))), Form(((4, 0, 2), (0, 9, 0), (2, 0, 9)))
        self.assertTrue(is_reduced(one) and is_reduced(other))
        self.assertEqual((one.determinant, other.determinant), (288, 288))
        self.assertFalse(are_alike(one, other))
        self.assertEqual(slow_matrices(one.table, other.table), ())

    def test_3_5_no_entry_below_0(self):
        # All keepers and signs are tried: bases of BODY with values 3 have its least rows.
        rows = [row for _, row in rows_below(BODY.table, 3)]
        for basis in product(rows + [tuple(-n for n in row) for row in rows], repeat=3):
            if abs(det(basis)) == 1:
                table = led(BODY.table, transposed(basis))
                self.assertTrue(any(number < 0 for row in table for number in row))


class WrongArguments(unittest.TestCase):
    def test_forms(self):
        calls = (is_reduced, reduced, lambda form: is_reducing(form, unit(2)), successive_values, least_form,
                 lambda form: is_successive(form, unit(2)), lambda form: is_reducing(form, None))
        for wrong in WRONG + (PLANE.table, unit(3), (PLANE,)):
            if not isinstance(wrong, Form):
                for call in calls:
                    self.assertIs(type(outcome(call, wrong)), InvalidForm)

    def test_sizes(self):
        for wrong in WRONG + (0, 1, 5):
            error = outcome(is_basis, wrong, None)
            self.assertIs(type(error), InvalidNumber)
            self.assertIs(error.given, wrong)

    def test_judged_values(self):
        for form in (PLANE, CUBE, TWENTY_FOUR):
            for wrong in WRONG + (unit(5), list(unit(form.size))):
                self.assertIs(is_reducing(form, wrong), False)
                self.assertIs(is_successive(form, wrong), False)
                if wrong not in (((LONG, 1), (1, LONG)), ((10 ** 99, 0), (0, 1))):
                    self.assertIs(is_basis(form.size, wrong), False)

    def test_nothing_changes(self):
        for form in FORMS + FAR:
            before = str(form)
            for call in (is_reduced, reduced, successive_values):
                call(form)
                is_reducing(form, unit(form.size))
                is_successive(form, unit(form.size))
                self.assertEqual(str(form), before)
