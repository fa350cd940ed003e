"""Forms [0.8], [0.9], [0.11], [2.2], [2.3]."""

import math
import unittest

from ballgrids.errors import InvalidForm, InvalidMatrix, InvalidNumber, InvalidOperation, InvalidRow, InvalidTable
from ballgrids.form.forms import Form, barrier, is_barrier, is_positive
from ballgrids.form.matrices import led_table, matrix_back, moved_table, together
from tests.helper import (
    BODY, CUBE, FORMS, GRID, LONG, MOST, PLANE, TWENTY_FOUR, WRONG, adjoint, chance_of, det, many_forms,
    outcome, pairing, rows_below, some_matrix, times, unit, value)

FLAT = ((1, 1), (1, 1))
NOT_POSITIVE = (
    FLAT, ((0, 0), (0, 1)), ((1, 0), (0, 0)), ((-1, 0), (0, 1)), ((-1, 0), (0, -1)), ((1, 2), (2, 3)), ((0, 1), (1, 0)),
    ((0, 0), (0, 0)), ((2, -1, -1), (-1, 2, -1), (-1, -1, 2)), ((1, 0, 0), (0, 1, 0), (0, 0, 0)),
    ((1, 2, 0), (2, 1, 0), (0, 0, 1)), ((1, 0, 0, 0), (0, 1, 0, 0), (0, 0, 1, 0), (0, 0, 0, -1)),
    ((1, 0, 0, 0), (0, 1, 0, 0), (0, 0, 1, 2), (0, 0, 2, 4)), ((MOST, MOST), (MOST, MOST)),
    ((1, -MOST), (-MOST, MOST)))


class Making(unittest.TestCase):
    def test_a_form_keeps_its_table(self):
        for table in (((1, 0), (0, 1)), ((MOST, MOST - 1), (MOST - 1, MOST)), unit(3), unit(4)):
            self.assertEqual(Form(table).table, table)
            self.assertEqual(Form(table).size, len(table))

    def test_wrong_tables(self):
        wrongs = WRONG + NOT_POSITIVE + (
            unit(1), unit(5), ((2, 1), (0, 2)), ((2, 1),), ((LONG, 0), (0, 1)), [(2, 1), (1, 2)], ((2, 1), (1, 2), (0, 0)),
            ((1, 0), (0, True)))
        for wrong in wrongs:
            self.assertIs(type(outcome(Form, wrong)), InvalidForm, wrong)

    def test_diagonal(self):
        self.assertEqual(Form.diagonal(1, 3).table, ((1, 0), (0, 3)))
        self.assertEqual(Form.diagonal(1, 2, MOST).table, ((1, 0, 0), (0, 2, 0), (0, 0, MOST)))
        self.assertEqual(Form.diagonal(4, 3, 2, 1).table, ((4, 0, 0, 0), (0, 3, 0, 0), (0, 0, 2, 0), (0, 0, 0, 1)))

    def test_wrong_diagonals(self):
        for numbers in ((), (1,), (1,) * 5, (0, 1), (1, 0), (1, -1), (LONG, 1), (1, True), ((1, 2),), (1, (2,))):
            self.assertIs(type(outcome(Form.diagonal, *numbers)), InvalidForm, numbers)
        for wrong in WRONG:
            self.assertIs(type(outcome(Form.diagonal, wrong, 1)), InvalidForm, wrong)
            self.assertIs(type(outcome(Form.diagonal, 1, wrong)), InvalidForm, wrong)
            self.assertIs(type(outcome(Form.diagonal, wrong)), InvalidForm, wrong)


class Reckoning(unittest.TestCase):
    def test_2_2_minors(self):
        for form in many_forms(20, 30):
            table = form.table
            self.assertEqual(form.minors, tuple(
                det([row[:many] for row in table[:many]]) for many in range(1, form.size + 1)))
            self.assertEqual(form.determinant, det(table))
            self.assertTrue(all(number > 0 for number in form.minors))
            self.assertTrue(all(table[i][i] > 0 for i in range(form.size)))

    def test_0_11_adjoint(self):
        for form in many_forms(21, 30):
            whole = form.determinant
            self.assertIsInstance(form.adjoint, Form)
            self.assertEqual(form.adjoint.table, adjoint(form.table))
            self.assertEqual(
                times(form.table, form.adjoint.table),
                tuple(tuple(whole * number for number in row) for row in unit(form.size)))
            self.assertTrue(all(number > 0 for number in form.adjoint.minors))

    def test_2_3_adjoint(self):
        chance = chance_of(22)
        for form in many_forms(23, 20):
            whole, size = form.determinant, form.size
            back = form.adjoint
            self.assertEqual(back.determinant, whole ** (size - 1))
            factor = whole ** (size - 2)
            self.assertEqual(back.adjoint.table, tuple(tuple(factor * number for number in row) for row in form.table))
            self.assertEqual(together(form.table, back.table), size * whole)
            matrix = some_matrix(chance, size, 4, 2)
            self.assertEqual(form.led(matrix).adjoint.table, moved_table(back.table, matrix_back(matrix)))
            other = Form(led_table(form.table, some_matrix(chance, size, 3, 2)))
            self.assertGreater((form + other).determinant, whole + other.determinant)

    def test_content(self):
        self.assertEqual([form.content for form in (PLANE, CUBE * 6, BODY.adjoint)], [1, 6, 4])
        self.assertEqual(Form(((4, 2), (2, 6))).content, 2)
        self.assertEqual(Form(((4, 1), (1, 4))).content, 1)
        for form in many_forms(24, 15):
            self.assertEqual(form.content, math.gcd(*[number for row in form.table for number in row]))
            self.assertEqual((form.cleared() * form.content).table, form.table)
            self.assertEqual(form.cleared().content, 1)

    def test_values_and_pairings(self):
        chance = chance_of(25)
        for form in many_forms(26, 20):
            one, other = [tuple(chance.randint(-9, 9) for _ in range(form.size)) for _ in range(2)]
            self.assertEqual(form.value(one), value(form.table, one))
            self.assertEqual(form.pairing(one, other), pairing(form.table, one, other))
            self.assertEqual(form.pairing(one, one), form.value(one))
        self.assertEqual(PLANE.value((0, 0)), 0)
        self.assertEqual(PLANE.value((MOST, -MOST)), 2 * MOST * MOST)
        self.assertEqual(PLANE.pairing((MOST, 0), (0, -MOST)), -MOST * MOST)

    def test_led(self):
        chance = chance_of(27)
        for form in many_forms(28, 20):
            matrix = some_matrix(chance, form.size, 5, 3)
            self.assertEqual(form.led(matrix).table, led_table(form.table, matrix))
        self.assertEqual(PLANE.led(((1, MOST), (0, 1))).value((0, 1)), 2 * (MOST * MOST + MOST + 1))

    def test_wrong_rows_and_matrices(self):
        for form in (PLANE, CUBE, TWENTY_FOUR):
            right = (1,) * form.size
            wrongs = WRONG + ((1,) * (form.size + 1), (1,) * (form.size - 1), (1,) * (form.size - 1) + (LONG,), list(right))
            for wrong in wrongs:
                self.assertIs(type(outcome(form.value, wrong)), InvalidRow)
                self.assertIs(type(outcome(form.pairing, wrong, right)), InvalidRow)
                self.assertIs(type(outcome(form.pairing, right, wrong)), InvalidRow)
            line = (1,) + (0,) * (form.size - 2)
            tall = tuple(line + (LONG,) if i == 0 else row for i, row in enumerate(unit(form.size)))
            for wrong in WRONG + (unit(form.size + 1), unit(form.size - 1), tall, ((0,) * form.size,) * form.size):
                self.assertIs(type(outcome(form.led, wrong)), InvalidMatrix)


class Signs(unittest.TestCase):
    def test_sum(self):
        self.assertEqual((PLANE + Form(((1, 0), (0, 5)))).table, ((3, 1), (1, 7)))
        self.assertEqual(CUBE + BODY, Form(((4, -1, -1), (-1, 4, -1), (-1, -1, 4))))
        one = Form.diagonal(MOST, MOST)
        self.assertEqual((one + one).table, ((2 * MOST, 0), (0, 2 * MOST)))

    def test_sum_with_no_form(self):
        for wrong in WRONG + (1, 0, PLANE.table):
            if isinstance(wrong, Form):
                continue
            self.assertIs(type(outcome(lambda: PLANE + wrong)), TypeError)
            self.assertIs(type(outcome(lambda: wrong + PLANE)), TypeError)

    def test_sum_of_unlike_sizes(self):
        for one, other in ((PLANE, CUBE), (CUBE, PLANE), (TWENTY_FOUR, CUBE)):
            self.assertIs(type(outcome(lambda: one + other)), InvalidOperation)

    def test_multiples(self):
        self.assertEqual((PLANE * 3).table, ((6, 3), (3, 6)))
        self.assertEqual(PLANE * 1, PLANE)
        self.assertEqual((PLANE * MOST).table, ((2 * MOST, MOST), (MOST, 2 * MOST)))
        self.assertEqual((PLANE * MOST * MOST).determinant, 3 * MOST ** 4)

    def test_wrong_multiples(self):
        for number in (0, -1, -MOST, LONG, -LONG, 10 ** 99, 10 ** 100):
            error = outcome(lambda: PLANE * number)
            self.assertIs(type(error), InvalidNumber)
            self.assertEqual(error.given, number)
        for wrong in WRONG:
            if type(wrong) is not int:
                self.assertIs(type(outcome(lambda: PLANE * wrong)), TypeError, wrong)
        for wrong in WRONG + (2,):
            self.assertIs(type(outcome(lambda: wrong * PLANE)), TypeError, wrong)

    def test_equality(self):
        self.assertTrue(PLANE == Form(((2, 1), (1, 2))))
        self.assertFalse(PLANE != Form(((2, 1), (1, 2))))
        self.assertTrue(PLANE != Form(((2, -1), (-1, 2))))
        self.assertFalse(PLANE == CUBE)
        for other in WRONG + (PLANE.table, 2, "form 2 1/1 2"):
            if other is not PLANE:
                self.assertIs(PLANE == other, False)
                self.assertIs(PLANE != other, True)
                self.assertIs(other == PLANE, False)
        self.assertIn(PLANE, (None, "a", Form(((2, 1), (1, 2)))))
        self.assertNotIn(PLANE, (None, "a", CUBE, PLANE.table))

    def test_length_and_text(self):
        self.assertEqual([len(form) for form in (PLANE, CUBE, GRID)], [2, 3, 4])
        self.assertEqual(str(BODY), "form 3 -1 -1/-1 3 -1/-1 -1 3")
        self.assertEqual(str(GRID), "form 1 0 0 0/0 1 0 0/0 0 1 0/0 0 0 1")
        self.assertEqual(str(Form.diagonal(MOST, 10)), "form " + "9" * 60 + " 0/0 10")

    def test_text_of_long_integers(self):
        form = PLANE * 10 ** 59
        self.assertEqual(str(form), "form 2" + "0" * 59 + " 1" + "0" * 59 + "/1" + "0" * 59 + " 2" + "0" * 59)
        for number, zeros in ((10 ** 59, 59), (10 ** 50, 50)):
            made = Form.diagonal(1, 1)
            # More than 4300 digits in the end: `str` of Python refuses these.
            for _ in range(120):
                made = made * number
            one = "1" + "0" * (120 * zeros)
            self.assertEqual(str(made), f"form {one} 0/0 {one}")
        shifted = PLANE
        for _ in range(100):
            shifted = shifted.led(((1, -MOST), (0, 1)))
        self.assertTrue(str(shifted).startswith("form 2 -"))
        self.assertEqual(int(str(shifted).split()[2].split("/")[0]), shifted.table[0][1])

    def test_no_iteration(self):
        for form in FORMS:
            for call in (iter, list, tuple, sorted, sum, reversed, lambda told: 1 in told, lambda told: told[0],
                         lambda told: [*told]):
                self.assertIs(type(outcome(call, form)), TypeError)

    def test_0_2_a_form_never_changes(self):
        for name in ("size", "table", "determinant", "minors", "adjoint", "content"):
            with self.assertRaises(AttributeError):
                setattr(PLANE, name, 1)
            self.assertTrue(hasattr(PLANE, name))
            self.assertIn(name, vars(Form))
        for name in ("diagonal", "value", "pairing", "led", "cleared", "__add__", "__mul__", "__eq__", "__len__",
                     "__str__"):
            self.assertIn(name, vars(Form))
        form = Form(((4, 2), (2, 6)))
        for call in (form.cleared, lambda: form + form, lambda: form * 7, lambda: form.adjoint, lambda: form.value((1, 2)),
                     lambda: form.led(((1, 1), (0, 1))), lambda: form.pairing((1, 0), (0, 1)), lambda: form.content):
            call()
            self.assertEqual(form.table, ((4, 2), (2, 6)))
            self.assertEqual(call(), call())


class Positive(unittest.TestCase):
    def test_0_9_positive(self):
        for form in many_forms(29, 10):
            self.assertIs(is_positive(form.size, form.table), True)
        for table in NOT_POSITIVE:
            self.assertIs(is_positive(len(table), table), False)
        self.assertIs(is_positive(2, ((MOST, 0), (0, MOST))), True)
        for size in (2, 3, 4):
            for wrong in WRONG + (unit(5), unit(1), ((LONG, 0), (0, 1)), ((2, 1), (0, 2))):
                self.assertIs(is_positive(size, wrong), False)
        self.assertIs(is_positive(3, unit(2)), False)

    def test_2_2_barriers(self):
        chance = chance_of(30)
        tables = list(NOT_POSITIVE)
        for size in (2, 3, 4) * 60:
            lines = [[chance.randint(-3, 3) for _ in range(size)] for _ in range(size)]
            tables.append(tuple(
                tuple(lines[i][j] + lines[j][i] + 7 * (i == j) for j in range(size)) for i in range(size)))
        great = [[chance.randint(-MOST, MOST) for _ in range(4)] for _ in range(4)]
        tables.append(tuple(tuple(great[min(i, j)][max(i, j)] if i != j else MOST for j in range(4)) for i in range(4)))
        positive = 0
        for table in tables:
            size = len(table)
            found = barrier(size, table)
            if is_positive(size, table):
                positive += 1
                self.assertIsNone(found)
                self.assertTrue(all(is_barrier(size, table, row) is False for _, row in rows_below(table, 9)))
                continue
            self.assertTrue(any(found))
            self.assertTrue(all(type(number) is int and abs(number) < 10 ** 400 for number in found))
            self.assertLessEqual(value(table, found), 0)
            self.assertIs(is_barrier(size, table, found), True)
        self.assertGreater(positive, 10)
        self.assertLess(positive, 150)

    def test_every_barrier_is_accepted(self):
        self.assertIs(is_barrier(2, FLAT, (1, -1)), True)
        self.assertIs(is_barrier(2, FLAT, (-LONG, LONG)), True)
        self.assertIs(is_barrier(2, FLAT, (10 ** 400, -(10 ** 400))), True)
        self.assertIs(is_barrier(2, FLAT, (10 ** 400, 1 - 10 ** 400)), False)
        self.assertIs(is_barrier(2, ((1, 0), (0, -1)), (1, -1)), True)
        self.assertIs(is_barrier(2, ((1, 0), (0, -1)), (2, 1)), False)
        self.assertIs(is_barrier(3, ((0,) * 3,) * 3, (0, 0, 5)), True)
        for wrong in WRONG + ((0, 0), (1, -1, 0), [1, -1], (True, -1), (1, None), (1, 0)):
            self.assertIs(is_barrier(2, FLAT, wrong), False, wrong)

    def test_wrong_arguments(self):
        calls = (lambda size, *rest: is_positive(size, None), barrier, lambda *told: is_barrier(*told, (1, 0)))
        for call in calls:
            for wrong in WRONG + (0, 1, 5):
                for table in (FLAT, None):
                    error = outcome(call, wrong, table)
                    self.assertIs(type(error), InvalidNumber)
                    self.assertIs(error.given, wrong)
        for call in calls[1:]:
            for wrong in WRONG + (unit(3), unit(1), ((2, 1), (0, 2)), ((LONG, 0), (0, 1)), [(1, 0), (0, 1)]):
                self.assertIs(type(outcome(call, 2, wrong)), InvalidTable)
            self.assertIs(type(outcome(call, 3, FLAT)), InvalidTable)
        self.assertIs(type(outcome(is_barrier, 2, None, None)), InvalidTable)
