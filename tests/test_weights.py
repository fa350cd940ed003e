"""Weights of the adjoint and critical forms [0.17], [0.22], [10.1] to [10.8]."""

import unittest
from fractions import Fraction

from ballgrids.alike.alikes import are_alike, multiple_between
from ballgrids.chain.chains import each_rise
from ballgrids.cone.cones import level_weights
from ballgrids.cone.told import NAMES, Copy, told_form
from ballgrids.errors import InvalidForm, InvalidNumber
from ballgrids.form.forms import Form
from ballgrids.short.bases import is_basis, successive_values
from ballgrids.short.rows import density, least_rows, least_value
from ballgrids.span.spans import blanks, is_perfect, told_copy
from ballgrids.weight.weights import (
    blocking, critical_forms, critical_index, is_blocking, is_locally_densest, is_opposing, level_number, opposing,
    weights_of_adjoint)
from tests.helper import (
    BODY, CUBE, FACED, FORMS, FOURTH, GRID, LONG, MOST, PLANE, TWENTY_FOUR, WRONG, adjoint, chance_of, det, far_matrix,
    inverse, lead, led, many_forms, multiple, normal, outcome, pairing, product_sum, solved, some_matrix, some_table,
    square_of, sum_table, unit, uppers, value)

TOLD = {
    2: ["1 0 1", "2 1 2"],
    3: ["1 0 0 1 0 1", "2 0 0 2 1 2", "3 -1 -1 3 -1 3", "4 2 1 4 2 4", "2 1 1 2 1 2"],
    4: ["1 0 0 0 1 0 0 1 0 1", "2 0 0 0 2 0 0 2 1 2", "3 0 0 0 3 1 1 3 -1 3", "4 -1 1 1 4 1 1 4 -1 4",
        "2 1 0 0 2 0 0 2 1 2", "4 0 0 0 4 2 1 4 -1 4", "6 -1 1 1 6 2 2 6 -2 6", "2 0 0 0 2 1 1 2 0 2",
        "6 0 0 3 4 2 1 4 -1 4", "8 -1 1 2 8 4 2 8 -2 8", "4 0 1 1 4 2 2 4 0 4", "4 1 2 1 4 2 1 4 -1 4",
        "6 1 3 1 6 3 3 6 0 6", "2 1 1 1 2 1 1 2 1 2", "2 1 1 1 2 1 1 2 0 2"],
}
CRITICAL = [form for size in (2, 3, 4) for form in critical_forms(size)]
# Forms without weights: with few least rows, and with independent ones.
NONE = (
    Form.diagonal(1, 2), Form(((5, 1), (1, 5))), Form.diagonal(1, 1, 2), Form(((7, 4, 6), (4, 9, 2), (6, 2, 11))),
    Form(((5, 1, 0), (1, 5, 0), (0, 0, 5))), Form.diagonal(1, 2, 3, 4), Form(((5, 1, 0, 0), (1, 5, 0, 0), (0, 0, 5, 0), (0, 0, 0, 5))),
    Form(((2, 1, 0, 0), (1, 2, 0, 0), (0, 0, 3, 0), (0, 0, 0, 3))), Form.diagonal(MOST, 1), Form.diagonal(1, 10 ** 30, MOST))


def slow_weights(form):
    """The pair of the scale and the weights by solving, or None; only if the squares are independent."""
    lines = [uppers(square_of(row)) for row in least_rows(form)]
    found, only = solved(list(zip(*lines)), uppers(adjoint(form.table)))
    if found is None:
        return None
    assert only
    scale = 1
    while any((weight * scale).denominator > 1 for weight in found):
        scale += 1
    return (scale, tuple(int(weight * scale) for weight in found))


class Weights(unittest.TestCase):
    def test_10_1_weights(self):
        for form in many_forms(101, 30) + CRITICAL + list(NONE):
            if len(least_rows(form)) == 12:
                continue
            self.assertEqual(weights_of_adjoint(form), slow_weights(form), form.table)

    def test_10_1_the_sum_of_squares(self):
        chance = chance_of(102)
        for form in CRITICAL:
            for number in (1, 2, 3, 7):
                told = form.led(some_matrix(chance, form.size, 4, 2)) * number
                scale, weights = weights_of_adjoint(told)
                self.assertIs(type(weights), tuple)
                self.assertEqual(len(weights), len(least_rows(told)))
                self.assertEqual(
                    multiple(adjoint(told.table), scale),
                    sum_table([square_of(row) for row in least_rows(told)], weights))
                # The scale is the least one.
                self.assertTrue(scale == 1 or any(weight % scale for weight in weights))

    def test_10_1_level_weights_of_d4(self):
        chance = chance_of(103)
        for number in (1, 2, 3, 6, 9, 10 ** 20):
            form = TWENTY_FOUR.led(some_matrix(chance, 4, 4, 2)) * number
            copy = told_copy(form)[0]
            scale, weights = level_weights(copy, form.adjoint.table) if number < 10 else (
                3, (2 * number ** 3,) * 12)
            told = dict(zip(copy.rays, weights))
            self.assertEqual(weights_of_adjoint(form), (scale, tuple(told[row] for row in least_rows(form))))
        self.assertEqual(weights_of_adjoint(TWENTY_FOUR * 3), (1, (18,) * 12))

    def test_10_2_level_numbers(self):
        for form in many_forms(104, 30) + CRITICAL + list(NONE):
            found = weights_of_adjoint(form)
            number = level_number(form)
            if found is None:
                self.assertEqual(number, 0)
            else:
                self.assertGreaterEqual(min(found[1]), 0)
                self.assertEqual(number, 1 if 0 in found[1] else 2)
        for form in NONE:
            self.assertEqual(level_number(form), 0)
            self.assertIsNone(weights_of_adjoint(form))

    def test_10_3_sums(self):
        for form in CRITICAL + [told_form(name) * 5 for name in NAMES]:
            scale, weights = weights_of_adjoint(form)
            rows = least_rows(form)
            whole = form.determinant
            self.assertEqual(sum(weights) * least_value(form), form.size * whole * scale)
            for row in ((1, 0, 0, 0), (2, -1, 3, 1), (0, 5, -2, 7)):
                row = row[:form.size]
                self.assertEqual(
                    whole * value(form.table, row) * scale,
                    sum(weight * pairing(form.table, told, row) ** 2 for told, weight in zip(rows, weights)))

    def test_10_4_least_determinants(self):
        # Forms with the same least value and more least rows are denser than one with weights.
        for form in CRITICAL:
            for other in each_rise(form):
                self.assertTrue(set(least_rows(form)) < set(least_rows(other)))
                self.assertGreater(Fraction(*density(other)), Fraction(*density(form)))
        # Of forms with the same least rows at most one has weights.
        one, other = Form(((4, 1), (1, 4))), Form.diagonal(1, 1)
        self.assertEqual(least_rows(one), least_rows(other))
        self.assertEqual((level_number(one), level_number(other)), (0, 2))

    def test_led_and_multiplied_forms(self):
        chance = chance_of(105)
        for form in CRITICAL + list(NONE):
            matrix = some_matrix(chance, form.size, 5, 4)
            other = form.led(matrix)
            self.assertEqual(level_number(other), level_number(form))
            self.assertEqual(level_number(form * 12), level_number(form))
            if level_number(form):
                one, two = weights_of_adjoint(form), weights_of_adjoint(other)
                self.assertEqual(one[0], two[0])
                told = {normal(lead(inverse(matrix), row)): weight for row, weight in zip(least_rows(form), one[1])}
                self.assertEqual(two[1], tuple(told[row] for row in least_rows(other)))

    def test_far_forms(self):
        chance = chance_of(106)
        for form in CRITICAL[::2] + list(NONE[:6]):
            far = form.led(far_matrix(chance, form.size, 28))
            self.assertEqual(level_number(far), level_number(form))
            self.assertEqual(critical_index(far), critical_index(form))
            further = far.led(far_matrix(chance, form.size, 60)).led(far_matrix(chance, form.size, 60))
            self.assertEqual(level_number(further), level_number(form))


class Densest(unittest.TestCase):
    def test_10_6_locally_densest(self):
        for form in many_forms(107, 20) + CRITICAL + list(NONE):
            self.assertIs(is_locally_densest(form), is_perfect(form))
            if is_perfect(form):
                self.assertEqual(level_number(form), 2)
        self.assertEqual([is_locally_densest(form) for form in CRITICAL],
                         [False, True] + [False] * 4 + [True] + [False] * 13 + [True, True])

    def test_10_6_near_forms(self):
        # Close to a form that is perfect no other one is as dense; close to another one some are.
        chance = chance_of(108)
        for name in NAMES:
            form = told_form(name)
            for _ in range(6):
                near = self.near(form, chance)
                if near.cleared() != form:
                    self.assertLess(Fraction(*density(near)), Fraction(*density(form)))
        for form in (CUBE, BODY, GRID):
            table = blanks(form)[0]
            near = [Form(sum_table([multiple(form.table, 100), multiple(table, sign)])) for sign in (1, -1)]
            self.assertGreater(max(Fraction(*density(told)) for told in near), Fraction(*density(form)))

    def near(self, form, chance):
        size = form.size
        change = [[chance.randint(-2, 2) for _ in range(size)] for _ in range(size)]
        change = tuple(tuple(change[min(i, j)][max(i, j)] for j in range(size)) for i in range(size))
        return Form(sum_table([multiple(form.table, 100), change]))


class Critical(unittest.TestCase):
    def test_10_5_forms(self):
        for size, told in TOLD.items():
            forms = critical_forms(size)
            self.assertIs(type(forms), tuple)
            self.assertEqual([" ".join(map(str, uppers(form.table))) for form in forms], told)
            self.assertTrue(all(type(form) is Form and form.size == size for form in forms))
        self.assertEqual([level_number(form) for form in CRITICAL], [2] * 15 + [1] + [2] * 6)

    def test_10_5_no_two_are_alike(self):
        for i, one in enumerate(CRITICAL):
            for other in CRITICAL[:i]:
                if one.size == other.size:
                    self.assertIsNone(multiple_between(one, other))

    def test_10_5_unlike_determinants(self):
        for size in (2, 3, 4):
            told = [form.determinant for form in critical_forms(size)]
            self.assertEqual(len(set(told)), len(told))
            self.assertTrue(all(form.content == 1 for form in critical_forms(size)))

    def test_10_5_indices(self):
        chance = chance_of(109)
        for size in (2, 3, 4):
            for index, form in enumerate(critical_forms(size)):
                matrix = some_matrix(chance, size, 5, 3)
                for told in (form, form * 2, form.led(matrix), form.led(matrix) * 35, form * (10 ** 50)):
                    self.assertEqual(critical_index(told), index)
                    self.assertIsNotNone(multiple_between(told, form))
        for form in NONE:
            self.assertIsNone(critical_index(form))

    def test_10_5_adjoints(self):
        # An adjoint that is critical has a common divisor; so it is a fraction of it that is meant.
        self.assertEqual(critical_index(FACED.adjoint), 2)
        self.assertEqual(critical_index(FOURTH.adjoint), 3)
        self.assertEqual(critical_index(TWENTY_FOUR.adjoint), 14)

    def test_10_5_no_others(self):
        for form in many_forms(110, 40) + [Form(some_table(chance_of(seed), 4, 1)) for seed in range(20)]:
            if level_number(form):
                self.assertIsNotNone(multiple_between(form, critical_forms(form.size)[critical_index(form)]))
            else:
                self.assertIsNone(critical_index(form))

    def test_wrong_sizes(self):
        for wrong in WRONG + (0, 1, 5, -3, "2"):
            error = outcome(critical_forms, wrong)
            self.assertIs(type(error), InvalidNumber)
            self.assertIs(error.given, wrong)


class Tables(unittest.TestCase):
    def all_forms(self):
        return many_forms(111, 25) + CRITICAL + list(NONE)

    def test_10_7_opposing(self):
        for form in self.all_forms():
            table = opposing(form)
            if level_number(form):
                self.assertIsNone(table)
            else:
                self.check_opposing(form, table)

    def check_opposing(self, form, table):
        self.assertIs(is_opposing(form, table), True)
        self.assertEqual(table, tuple(zip(*table)))
        self.assertTrue(all(value(table, row) >= 0 for row in least_rows(form)))
        self.assertLess(product_sum(table, adjoint(form.table)), 0)
        self.assertLess(max(abs(n) for row in table for n in row), 10 ** 400)

    def test_10_7_blocking(self):
        for form in self.all_forms():
            table = blocking(form)
            if level_number(form) == 2:
                self.assertIsNone(table)
            else:
                self.check_blocking(form, table)

    def check_blocking(self, form, table):
        self.assertIs(is_blocking(form, table), True)
        self.assertEqual(table, tuple(zip(*table)))
        values = [value(table, row) for row in least_rows(form)]
        self.assertTrue(min(values) >= 0 and max(values) > 0)
        self.assertLessEqual(product_sum(table, adjoint(form.table)), 0)
        self.assertLess(max(abs(n) for row in table for n in row), 10 ** 400)

    def test_far_forms(self):
        chance = chance_of(112)
        forms = [Form(some_table(chance, size, 10 ** 29)) for size in (2, 3, 4)]
        forms += [form.led(far_matrix(chance, form.size, 27)) for form in NONE[:8] + (CRITICAL[15],)]
        for form in forms:
            self.check_blocking(form, blocking(form))
            if level_number(form) == 0:
                self.check_opposing(form, opposing(form))

    def test_judging_opposing(self):
        long_form = Form.diagonal(1, 2)
        for table, answer in (
                (((0, 0), (0, -1)), True), (((0, 5), (5, -1)), True), (((0, 0), (0, 0)), False), (((1, 0), (0, -3)), True),
                (((-1, 0), (0, -1)), False), (((1, 0), (0, -2)), False), (((0, 0), (0, -10 ** 300)), True),
                (((0, 1), (0, -1)), False), ([(0, 0), (0, -1)], False), (((0, 0), (0, True)), False), (((0, 0, 0),) * 3, False),
                (((False, 0), (0, -1)), False)):
            self.assertIs(is_opposing(long_form, table), answer, table)
        for form in FORMS:
            for wrong in WRONG:
                self.assertIs(is_opposing(form, wrong), False)
            self.assertIs(is_opposing(form, multiple(form.table, -1)), False)

    def test_judging_blocking(self):
        long_form = Form.diagonal(1, 2)
        for table, answer in (
                (((1, 0), (0, -2)), True), (((1, 0), (0, -1)), False), (((0, 0), (0, -1)), False), (((1, 0), (0, -3)), True),
                (((0, 0), (0, 0)), False), (((10 ** 300, 7), (7, -3 * 10 ** 300)), True), (((1, 1), (0, -2)), False),
                ([(1, 0), (0, -2)], False), (((True, 0), (0, -2)), False), (((-1, 0), (0, -2)), False)):
            self.assertIs(is_blocking(long_form, table), answer, table)
        for form in FORMS:
            for wrong in WRONG:
                self.assertIs(is_blocking(form, wrong), False)
            self.assertIs(is_blocking(form, form.table), False)
        # Too little at one of the least rows.
        wide = Form(((5, 1), (1, 5)))
        self.assertLess(product_sum(((1, 0), (0, -2)), wide.adjoint.table), 0)
        self.assertIs(is_blocking(wide, ((1, 0), (0, -2))), False)
        self.assertIs(is_opposing(wide, ((1, 0), (0, -2))), False)
        self.assertIs(is_opposing(wide, ((-2, 0), (0, 1))), False)
        self.assertIs(is_opposing(wide, ((0, 1), (1, 0))), True)
        self.assertIs(is_blocking(wide, ((0, 1), (1, 0))), False)
        # With the level number 1 a table can block, but none oppose.
        form = critical_forms(4)[8]
        self.assertTrue(is_blocking(form, blocking(form)))
        self.assertFalse(is_opposing(form, blocking(form)))

    def test_tables_of_alike_forms(self):
        chance = chance_of(113)
        for form in NONE[:8]:
            matrix = some_matrix(chance, form.size, 4, 3)
            self.assertTrue(is_opposing(form.led(matrix), led(opposing(form), matrix)))
            self.assertTrue(is_blocking(form.led(matrix) * 6, led(blocking(form), matrix)))
            self.assertTrue(is_opposing(form, multiple(opposing(form * 4), 10 ** 90)))


class Errors(unittest.TestCase):
    def test_wrong_forms(self):
        for wrong in WRONG + (Copy.first(2), LONG):
            if isinstance(wrong, Form):
                continue
            for call in (weights_of_adjoint, level_number, opposing, blocking, is_locally_densest, critical_index):
                self.assertIs(type(outcome(call, wrong)), InvalidForm)
            for call in (is_opposing, is_blocking):
                for other in (None, ((1, 0), (0, -2))):
                    self.assertIs(type(outcome(call, wrong, other)), InvalidForm)

    def test_nothing_changes(self):
        for form in FORMS + NONE:
            before = str(form)
            for call in (weights_of_adjoint, level_number, opposing, blocking, is_locally_densest, critical_index):
                self.assertEqual(call(form), call(form))
            self.assertEqual(str(form), before)
            self.assertEqual(critical_forms(form.size), critical_forms(form.size))


class Untrue(unittest.TestCase):
    def test_10_8_equal_weights(self):
        scale, weights = weights_of_adjoint(BODY)
        self.assertEqual(len(set(weights)), 1)
        self.assertFalse(is_perfect(BODY))

    def test_10_8_independent_rows(self):
        form = Form(((5, 1), (1, 5)))
        self.assertNotEqual(det(least_rows(form)), 0)
        self.assertIsNone(weights_of_adjoint(form))

    def test_10_8_rows_and_densities(self):
        pairs = [
            (one, other) for i, one in enumerate(critical_forms(4)) for other in critical_forms(4)[:i]
            if len(least_rows(one)) == len(least_rows(other)) and density(one) == density(other)]
        self.assertGreater(len(pairs), 0)
        for one, other in pairs:
            self.assertIsNone(multiple_between(one, other))

    def test_10_8_the_denser_one(self):
        less, more = Form(((9, 1), (1, 9))), Form(((9, 2), (2, 9)))
        self.assertEqual(least_rows(less), least_rows(more))
        self.assertGreater(Fraction(*density(more)), Fraction(*density(less)))
        self.assertIsNone(weights_of_adjoint(more))

    def test_0_22_more_least_rows(self):
        more, fewer = critical_forms(4)[4], critical_forms(4)[3]
        self.assertGreater(len(least_rows(more)), len(least_rows(fewer)))
        self.assertLess(Fraction(*density(more)), Fraction(*density(fewer)))

    def test_0_22_weights_above_0(self):
        self.assertEqual(level_number(CUBE), 2)
        raised = [Form(sum_table([multiple(CUBE.table, 10), table])) for table in blanks(CUBE)]
        self.assertTrue(all(Fraction(*density(form)) > Fraction(*density(CUBE)) for form in raised))

    def test_0_22_denser_adjoints(self):
        self.assertGreater(Fraction(*density(FACED)), Fraction(*density(BODY)))
        self.assertLess(Fraction(*density(FACED.adjoint)), Fraction(*density(BODY.adjoint)))

    def test_0_22_no_basis(self):
        frame = ((0, 0, 0, 1), (0, 0, 1, 0), (1, -1, 0, 0), (1, 1, -1, -1))
        self.assertEqual(tuple(TWENTY_FOUR.value(row) for row in frame), successive_values(TWENTY_FOUR))
        self.assertNotEqual(det(frame), 0)
        self.assertFalse(is_basis(4, frame))

    def test_told_forms_among_the_critical_ones(self):
        for name, index in (("A2", 1), ("A3", 4), ("A4", 13), ("D4", 14)):
            form = told_form(name)
            self.assertTrue(are_alike(form, critical_forms(form.size)[index]))
        self.assertEqual(critical_index(PLANE), 1)
        self.assertEqual(unit(2), critical_forms(2)[0].table)
