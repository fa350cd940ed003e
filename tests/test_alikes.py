"""Forms that are alike, and keepers [5.1] to [5.7]."""

import math
import unittest
from fractions import Fraction
from itertools import product

from ballgrids.alike import alikes
from ballgrids.alike.alikes import (
    alike_parts, are_alike, are_turned_alike, count_keepers, first_unlike, is_between, is_multiple_between,
    keeper_order, keepers, matrices_between, matrix_between, multiple_between, row_kinds)
from ballgrids.errors import InvalidForm, InvalidMatrix, InvalidNumber, InvalidOperation, TooMany
from ballgrids.form.forms import Form
from ballgrids.form.matrices import led_row, led_table, matrix_back, matrix_product, normal_row
from ballgrids.short.bases import reduced
from ballgrids.short.rows import density, least_value, rows_of_value
from tests.helper import (
    BODY, CUBE, FACED, FORMS, FOURTH, GRID, LONG, MOST, PLANE, TWENTY_FOUR, WRONG, adjoint, calls_of, chance_of, det,
    led, many_forms, outcome, pairing, rows_below, slow_matrices, some_matrix, times, transposed, unit, value)

TWO_FORMS = (matrices_between, matrix_between, are_alike, are_turned_alike, multiple_between)
KEPT = (12, 48, 48, 48, 1152, 240, 384)


def opposite(matrix):
    return tuple(tuple(-number for number in row) for row in matrix)


def turn(size):
    """A matrix with the determinant -1."""
    return tuple(tuple(-number for number in row) if i == 0 else row for i, row in enumerate(unit(size)))


def pairs(seed, count):
    """Pairs of forms of one size, about half of them alike."""
    chance = chance_of(seed)
    made = []
    for form in many_forms(seed + 1, count, 2):
        form = reduced(form)[0]
        made.append((form, form.led(some_matrix(chance, form.size, 2, 1))))
        table = [list(row) for row in form.table]
        table[0][1] = table[1][0] = -table[0][1]
        made.append((form, outcome(Form, tuple(tuple(row) for row in table))))
        table[-1][-1] += chance.choice((-1, 1))
        made.append((form, outcome(Form, tuple(tuple(row) for row in table))))
    return [(one, other) for one, other in made if isinstance(other, Form)]


class Between(unittest.TestCase):
    def test_constants(self):
        self.assertEqual((alikes.MOST_COUNTED, alikes.MOST_ROWS), (200, 2000))

    def test_5_1_all_matrices(self):
        alike = unlike = 0
        for one, other in pairs(50, 25):
            found = matrices_between(one, other)
            self.assertEqual(found, slow_matrices(one.table, other.table))
            self.assertEqual(found, tuple(sorted(set(found))))
            self.assertIs(are_alike(one, other), bool(found))
            alike, unlike = alike + bool(found), unlike + (not found)
            some = matrix_between(one, other)
            self.assertTrue(some in found if found else some is None)
            if found:
                self.assertEqual(one.determinant, other.determinant)
                self.assertEqual(least_value(one), least_value(other))
        self.assertGreater(min(alike, unlike), 10)

    def test_5_1_what_a_matrix_takes(self):
        for one, other in pairs(52, 10):
            for matrix in matrices_between(one, other)[:20]:
                columns = transposed(matrix)
                self.assertEqual(led_table(one.table, matrix), other.table)
                for i, j in product(range(one.size), repeat=2):
                    self.assertEqual(pairing(one.table, columns[i], columns[j]), other.table[i][j])
                self.assertIs(is_between(one, other, matrix), True)
                self.assertIs(is_between(one, other * 2, matrix), False)

    def test_forms_far_apart(self):
        chance = chance_of(53)
        for form, kept in zip(FORMS, KEPT):
            for factor, most in ((1, 10 ** 6), (10 ** 30, 10 ** 3), (MOST, 2)):
                one = form.led(some_matrix(chance, form.size, 6, most)) * factor
                other = form.led(some_matrix(chance, form.size, 6, most)) * factor
                found = matrices_between(one, other)
                self.assertEqual(len(found), kept)
                self.assertEqual(len(set(found)), kept)
                for matrix in found[::50]:
                    self.assertEqual(led(one.table, matrix), other.table)
                self.assertIs(is_between(one, other, matrix_between(one, other)), True)
                self.assertIs(are_alike(one, other), True)
                self.assertEqual(matrices_between(one, other + other), ())
                self.assertIsNone(matrix_between(one, other + other))

    def test_forms_with_values_far_apart(self):
        # Far more rows have the greatest successive value than can be looked through.
        for numbers, kept in (((1, 1, 1, MOST), 96), ((1, 1, MOST, MOST), 64), ((1, MOST, MOST, MOST), 96),
                              ((1, 10 ** 20, 10 ** 40, MOST), 16), ((1, 1, MOST), 16), ((1, MOST), 4), ((MOST, MOST), 8)):
            form = Form.diagonal(*numbers)
            self.assertEqual(count_keepers(form), kept)
            other = form.led(some_matrix(chance_of(54), form.size, 6, 10 ** 5))
            self.assertEqual(len(matrices_between(form, other)), kept)
        block = Form(((2, 1, 1, 0), (1, 2, 1, 0), (1, 1, 2, 0), (0, 0, 0, 10 ** 58)))
        self.assertEqual(count_keepers(block), 96)
        skew = Form(((2, 1, 1, 1), (1, 2, 1, 1), (1, 1, 2, 1), (1, 1, 1, 10 ** 58)))
        self.assertEqual(len(keepers(skew)), len(slow_matrices(*[self.nearer(skew)] * 2)))

    def nearer(self, form):
        return form.table[:3] + (form.table[3][:3] + (50,),)

    def test_rows_that_are_no_basis(self):
        # D4 has four rows with the values and pairings of the other form, but they are no basis.
        other = GRID * 2
        rows = ((0, 0, 0, 1), (0, 0, 1, 0), (1, -1, 0, 0), (1, 1, -1, -1))
        self.assertEqual(led(TWENTY_FOUR.table, transposed(rows)), other.table)
        for one, two in ((TWENTY_FOUR, other), (other, TWENTY_FOUR)):
            self.assertEqual(matrices_between(one, two), ())
            self.assertIsNone(matrix_between(one, two))
            self.assertIs(are_alike(one, two), False)
            self.assertIs(are_turned_alike(one, two), False)
            self.assertIsNone(multiple_between(one, two))
            self.assertEqual(alike_parts((one, two)), ((0,), (1,)))
        self.assertIs(is_between(TWENTY_FOUR, other, transposed(rows)), False)
        self.assertIs(is_multiple_between(TWENTY_FOUR, other, (1, 1, transposed(rows))), False)

    def test_few_least_rows(self):
        for numbers in ((2, 3, 5, 7), (2, 3, 5), (2, 3)):
            form = Form.diagonal(*numbers)
            self.assertEqual(count_keepers(form), 2 ** form.size)
        odd = Form(((7, 1, 2, 3), (1, 11, 4, 5), (2, 4, 13, 6), (3, 5, 6, 17)))
        self.assertEqual(keepers(odd), slow_matrices(odd.table, odd.table))

    def test_is_between_accepts_every_matrix(self):
        for one, other in pairs(55, 6):
            found = matrices_between(one, other)
            for matrix in found:
                self.assertIs(is_between(one, other, matrix), True)
            for signs in product((-1, 0, 1), repeat=one.size):
                matrix = (signs,) + unit(one.size)[1:]
                self.assertIs(is_between(one, other, matrix), matrix in found)
        far = PLANE
        for _ in range(2):
            far = far.led(((1, MOST), (0, 1)))
        self.assertIs(is_between(PLANE, far, ((1, 2 * MOST), (0, 1))), True)
        self.assertIs(is_between(PLANE, far, ((1, 2 * MOST), (0, True))), False)
        self.assertIs(is_between(PLANE, far, ((1, 2 * MOST + 1), (0, 1))), False)
        self.assertIs(is_between(PLANE, PLANE, ((True, 0), (0, 1))), False)
        self.assertIs(is_between(PLANE, PLANE, unit(3)), False)


class Keepers(unittest.TestCase):
    def test_5_2_keepers(self):
        for form, kept in zip(FORMS, KEPT):
            found = keepers(form)
            self.assertEqual(len(found), kept)
            self.assertEqual(count_keepers(form), kept)
            self.assertEqual(found, tuple(sorted(found)))
            self.assertIn(unit(form.size), found)
            self.assertIn(opposite(unit(form.size)), found)
            known = {matrix: True for matrix in found}
            for one in found[::37] + found[:3]:
                self.assertEqual(led(form.table, one), form.table)
                self.assertIn(matrix_back(one), known)
                for other in found[::11]:
                    self.assertIn(matrix_product(one, other), known)

    def test_5_2_how_many(self):
        most = {2: 12, 3: 48, 4: 1152}
        for form in many_forms(56, 30):
            count = count_keepers(form)
            self.assertEqual(count, len(keepers(form)))
            self.assertLessEqual(count, most[form.size])
            self.assertEqual(count % 2, 0)
            self.assertEqual(keepers(form), matrices_between(form, form))

    def test_5_2_matrices_are_products(self):
        for one, other in pairs(57, 8):
            found = matrices_between(one, other)
            if found:
                self.assertEqual(len(found), count_keepers(one))
                self.assertEqual(len(found), count_keepers(other))
                made = [matrix_product(keeper, found[-1]) for keeper in keepers(one)]
                self.assertEqual(tuple(sorted(made)), found)

    def test_5_3_orders(self):
        few, many = (1, 2, 3, 4, 6), (1, 2, 3, 4, 5, 6, 8, 10, 12)
        seen = {}
        for form in FORMS:
            for matrix in keepers(form):
                order = keeper_order(form, matrix)
                made, number = matrix, 1
                while made != unit(form.size):
                    made, number = times(made, matrix), number + 1
                self.assertEqual(order, number)
                self.assertIn(order, few if form.size < 4 else many)
                seen[order] = True
        self.assertEqual(sorted(seen), list(many))
        self.assertEqual(keeper_order(PLANE, unit(2)), 1)
        self.assertEqual(keeper_order(PLANE, opposite(unit(2))), 2)

    def test_5_3_orders_divide_the_number(self):
        for form in FORMS:
            found = keepers(form)
            for matrix in found:
                self.assertEqual(len(found) % keeper_order(form, matrix), 0)

    def test_no_keeper(self):
        for matrix in (((1, 1), (0, 1)), ((0, 1), (1, 1)), ((1, MOST), (0, 1))):
            self.assertIs(type(outcome(keeper_order, PLANE, matrix)), InvalidOperation)

    def test_5_4_turning(self):
        seen = {True: 0, False: 0}
        for one, other in pairs(58, 25):
            found = slow_matrices(one.table, other.table)
            expected = any(det(matrix) == 1 for matrix in found)
            self.assertIs(are_turned_alike(one, other), expected)
            if one.size == 3:
                self.assertIs(are_turned_alike(one, other), are_alike(one, other))
            seen[expected == bool(found)] += 1
        self.assertGreater(seen[True], 20)
        one, other = Form(((3, 1), (1, 4))), Form(((3, -1), (-1, 4)))
        self.assertIs(are_turned_alike(one, one), True)
        self.assertIs(are_turned_alike(one, other), False)
        odd = Form(((7, 1, 2, 3), (1, 11, 4, 5), (2, 4, 13, 6), (3, 5, 6, 17)))
        self.assertIs(are_turned_alike(odd, odd.led(turn(4))), False)
        self.assertIs(are_alike(odd, odd.led(turn(4))), True)
        self.assertIs(are_turned_alike(odd, odd.led(((0, 1, 0, 0), (1, 0, 0, 0), (0, 0, 0, 1), (0, 0, 1, 0)))), True)
        for form in FORMS:
            self.assertIs(are_turned_alike(form, form.led(turn(form.size))), True)
        self.assertIs(are_turned_alike(PLANE, Form.diagonal(1, 3)), False)


class Multiples(unittest.TestCase):
    def test_5_6_multiples(self):
        chance = chance_of(59)
        for form in many_forms(60, 15):
            first, second = chance.randint(1, 12), chance.randint(1, 12)
            one = form.led(some_matrix(chance, form.size, 4, 3)) * first
            other = form.led(some_matrix(chance, form.size, 4, 3)) * second
            found = multiple_between(one, other)
            self.check_triple(one, other, found)
            top, bottom, matrix = found
            self.assertEqual(Fraction(bottom, top), Fraction(second, first))
            self.assertEqual(Fraction(bottom, top) ** form.size, Fraction(other.determinant, one.determinant))
            self.assertEqual(density(one), density(other))
            for keeper in keepers(one)[::100]:
                self.assertIs(is_multiple_between(one, other, (top, bottom, matrix_product(keeper, matrix))), True)

    def check_triple(self, one, other, found):
        self.assertIs(type(found), tuple)
        top, bottom, matrix = found
        self.assertTrue(top > 0 and bottom > 0 and math.gcd(top, bottom) == 1)
        self.assertIn(det(matrix), (1, -1))
        self.assertEqual(
            tuple(tuple(bottom * number for number in row) for row in led(one.table, matrix)),
            tuple(tuple(top * number for number in row) for row in other.table))
        self.assertIs(is_multiple_between(one, other, found), True)
        for wrong in (found[:2], found + (1,), list(found), (2 * top, 2 * bottom, matrix), (-top, -bottom, matrix),
                      (top, bottom, list(matrix)), (top + 1, bottom, matrix), (top, bottom + 1, matrix),
                      (matrix, bottom, top), (0, bottom, matrix), (top, 0, matrix)):
            self.assertIs(is_multiple_between(one, other, wrong), False, wrong)

    def test_forms_that_are_no_multiples(self):
        for one, other in ((CUBE, FACED), (BODY, FACED), (TWENTY_FOUR, FOURTH), (GRID, TWENTY_FOUR * 3),
                           (Form.diagonal(1, 2), Form.diagonal(1, 3)), (Form.diagonal(1, 4), Form.diagonal(2, 2))):
            self.assertIsNone(multiple_between(one, other))
            self.assertIsNone(multiple_between(other, one))
            self.assertIs(is_multiple_between(one, other, (1, 1, unit(one.size))), False)

    def test_long_multiples(self):
        one, other = PLANE * MOST * MOST, PLANE.led(((1, MOST), (0, 1))).led(((1, MOST), (0, 1))) * 17
        self.check_triple(one, other, multiple_between(one, other))
        top, bottom, matrix = multiple_between(one, other)
        self.assertEqual((top, bottom), (MOST * MOST, 17))
        self.assertIs(is_multiple_between(one, other, (top, bottom, ((1, 2 * MOST), (0, 1)))), True)
        self.assertIs(is_multiple_between(CUBE, CUBE, (True, 1, unit(3))), False)
        self.assertIs(is_multiple_between(CUBE, CUBE, (1, True, unit(3))), False)
        self.assertEqual(multiple_between(CUBE * 6, CUBE * 4)[:2], (3, 2))
        self.assertEqual(multiple_between(CUBE, CUBE)[:2], (1, 1))
        self.assertIs(is_multiple_between(CUBE, CUBE, (1, 1, unit(3))), True)


class Kinds(unittest.TestCase):
    def test_5_5_kinds(self):
        for form in many_forms(61, 25, 2):
            number = least_value(form) * 2
            rows = rows_of_value(form, number)
            kinds = row_kinds(form, number)
            self.assertEqual(sorted(row for kind in kinds for row in kind), list(rows))
            self.assertEqual([kind[0] for kind in kinds], sorted(kind[0] for kind in kinds))
            matrices = keepers(form)
            for kind in kinds:
                self.assertEqual(kind, tuple(sorted(kind)))
                self.assertEqual(
                    sorted({normal_row(led_row(matrix, kind[-1])) for matrix in matrices}), list(kind))
                self.assertEqual(len(matrices) % len(kind), 0)
                self.assertTrue(all(value(form.table, row) == number for row in kind))

    def test_kinds_of_told_forms(self):
        for form in (PLANE, FACED, FOURTH, TWENTY_FOUR, CUBE, GRID, BODY):
            self.assertEqual(len(row_kinds(form, least_value(form))), 1)
        self.assertEqual(row_kinds(Form.diagonal(1, 4), 4), (((0, 1),), ((2, 0),)))
        self.assertEqual(row_kinds(PLANE, 1), ())
        self.assertEqual(row_kinds(PLANE, MOST // 10 ** 57), ())
        self.assertEqual(row_kinds(Form.diagonal(MOST, MOST), MOST), (((0, 1), (1, 0)),))

    def test_bounds(self):
        line = Form.diagonal(1, MOST)
        self.assertEqual(row_kinds(line, 2000 ** 2), (((2000, 0),),))
        self.assertEqual(row_kinds(line, 2001 ** 2 - 1), ())
        for number in (2001 ** 2, MOST):
            error = outcome(row_kinds, line, number)
            self.assertIs(type(error), TooMany)
            self.assertEqual(error.most, 2000)
        for number in (0, -1, LONG, -MOST):
            error = outcome(row_kinds, line, number)
            self.assertIs(type(error), InvalidNumber)
            self.assertEqual(error.given, number)


class FirstUnlike(unittest.TestCase):
    def test_first_unlike(self):
        for one, other in pairs(62, 15):
            first = dict.fromkeys(range(1, 13), 0)
            second = dict(first)
            for counts, form in ((first, one), (second, other)):
                for number, _ in rows_below(form.table, 12):
                    counts[number] += 1
            unlike = [number for number in first if first[number] != second[number]]
            for most in (1, 5, 12):
                expected = next((number for number in unlike if number <= most), None)
                self.assertEqual(first_unlike(one, other, most), expected)
        self.assertEqual(first_unlike(Form.diagonal(1, 200), Form.diagonal(1, 201), 200), 200)
        self.assertIsNone(first_unlike(Form.diagonal(1, 200), Form.diagonal(1, 201), 199))

    def test_bounds(self):
        for most in (0, -1, 201, LONG):
            error = outcome(first_unlike, PLANE, PLANE, most)
            self.assertIs(type(error), InvalidNumber)
            self.assertEqual(error.given, most)
        self.assertIsNone(first_unlike(PLANE, PLANE, 200))
        self.assertEqual(first_unlike(PLANE, Form.diagonal(1, 1), 1), 1)
        # One form has too many rows, even though the first value tells them apart.
        for one, other in ((CUBE, BODY * 9), (BODY * 9, CUBE), (CUBE, CUBE)):
            error = outcome(first_unlike, one, other, 200)
            self.assertIs(type(error), TooMany)
            self.assertEqual(error.most, 2000)


class Parts(unittest.TestCase):
    def test_parts(self):
        chance = chance_of(63)
        forms = []
        for form in many_forms(64, 4, 2)[:14]:
            forms.append(form)
            forms.append(form.led(some_matrix(chance, form.size, 3, 2)))
        chance.shuffle(forms)
        parts = alike_parts(tuple(forms))
        self.assertEqual(sorted(index for part in parts for index in part), list(range(len(forms))))
        self.assertEqual([part[0] for part in parts], sorted(part[0] for part in parts))
        place = {index: number for number, part in enumerate(parts) for index in part}
        for part in parts:
            self.assertEqual(part, tuple(sorted(part)))
        for i, j in product(range(len(forms)), repeat=2):
            expected = forms[i].size == forms[j].size and are_alike(forms[i], forms[j])
            self.assertEqual(place[i] == place[j], expected)

    def test_bounds(self):
        self.assertEqual(alike_parts((PLANE,)), ((0,),))
        self.assertEqual(alike_parts((TWENTY_FOUR,) * 30), (tuple(range(30)),))
        self.assertEqual(
            alike_parts(tuple(Form.diagonal(1, number) for number in range(1, 31))),
            tuple((index,) for index in range(30)))
        for wrong in WRONG + ((PLANE,) * 31, [PLANE], (PLANE, None), (PLANE, PLANE.table), PLANE, (PLANE, (PLANE,))):
            if wrong not in ((PLANE,), (PLANE, PLANE)):
                self.assertIs(type(outcome(alike_parts, wrong)), InvalidOperation, wrong)


class Untrue(unittest.TestCase):
    def test_5_7_equal_determinants_and_least_values(self):
        one, other = Form(((4, 0), (0, 5))), Form(((4, 2), (2, 6)))
        self.assertEqual((one.determinant, least_value(one)), (other.determinant, least_value(other)))
        self.assertFalse(are_alike(one, other))

    def test_5_7_orders(self):
        self.assertIn(5, [keeper_order(FOURTH, matrix) for matrix in keepers(FOURTH)])
        self.assertIn(8, [keeper_order(GRID, matrix) for matrix in keepers(GRID)])

    def test_5_7_equal_values(self):
        self.assertEqual(row_kinds(Form.diagonal(1, 1), 25), (((0, 5), (5, 0)), ((3, -4), (3, 4), (4, -3), (4, 3))))


class WrongArguments(unittest.TestCase):
    def check(self, call, arguments, error, given=None):
        found = outcome(call, *arguments)
        self.assertIs(type(found), error, (call.__name__, arguments))
        if error is InvalidNumber:
            self.assertIs(found.given, given)

    def test_two_forms(self):
        for wrong in WRONG + (PLANE.table, [PLANE]):
            if isinstance(wrong, Form):
                continue
            for call in TWO_FORMS:
                for arguments in ((wrong, PLANE), (PLANE, wrong), (wrong, wrong), (wrong, CUBE), (CUBE, wrong)):
                    self.check(call, arguments, InvalidForm)
            for call in (is_between, is_multiple_between):
                for arguments in ((wrong, PLANE, None), (PLANE, wrong, None), (wrong, wrong, unit(2))):
                    self.check(call, arguments, InvalidForm)
            for arguments in ((wrong, PLANE, 5), (PLANE, wrong, 5), (wrong, CUBE, 0), (CUBE, wrong, None)):
                self.check(first_unlike, arguments, InvalidForm)
            self.check(first_unlike, (PLANE, CUBE, wrong), InvalidOperation)
            self.check(first_unlike, (CUBE, CUBE, wrong), InvalidNumber, wrong)
        for one, other in ((PLANE, CUBE), (CUBE, TWENTY_FOUR), (TWENTY_FOUR, PLANE)):
            for call in TWO_FORMS:
                self.check(call, (one, other), InvalidOperation)
            for call in (is_between, is_multiple_between, first_unlike):
                for last in (None, 5, 0, unit(2)):
                    self.check(call, (one, other, last), InvalidOperation)

    def test_one_form(self):
        for wrong in WRONG + (PLANE.table, [PLANE]):
            if not isinstance(wrong, Form):
                self.check(keepers, (wrong,), InvalidForm)
                self.check(count_keepers, (wrong,), InvalidForm)
                for matrix in (unit(2), None):
                    self.check(keeper_order, (wrong, matrix), InvalidForm)
                for number in (1, 0, None):
                    self.check(row_kinds, (wrong, number), InvalidForm)
            self.check(row_kinds, (CUBE, wrong), InvalidNumber, wrong)
            self.check(keeper_order, (CUBE, wrong), InvalidMatrix)
        for wrong in (unit(2), unit(4), ((2, 0, 0), (0, 1, 0), (0, 0, 1)), ((1, LONG, 0), (0, 1, 0), (0, 0, 1))):
            self.check(keeper_order, (CUBE, wrong), InvalidMatrix)

    def test_judged_values(self):
        for form in (PLANE, CUBE, TWENTY_FOUR):
            for wrong in WRONG + (adjoint(unit(3))[:2], (1, 1), (1, 1, None), (None, 1, unit(form.size))):
                self.assertIs(is_between(form, form, wrong), False)
                self.assertIs(is_multiple_between(form, form, wrong), False)
                self.assertIs(is_multiple_between(form, form, (1, 1, wrong)), False)
                self.assertIs(is_multiple_between(form, form, (wrong, 1, unit(form.size))), False)
                self.assertIs(is_multiple_between(form, form, (1, wrong, unit(form.size))), False)

    def test_nothing_changes(self):
        for form in FORMS:
            other = form.led(turn(form.size))
            before = str(form), str(other)
            for call in TWO_FORMS:
                self.assertEqual(call(form, other), call(form, other))
            for call in (keepers, count_keepers, lambda told: row_kinds(told, 4), lambda told: alike_parts((told, other))):
                self.assertEqual(call(form), call(form))
            self.assertEqual((str(form), str(other)), before)


class Work(unittest.TestCase):
    """The functions are called very often: what they do must not grow with each matrix and each number of it."""

    def test_few_calls(self):
        for call, arguments, most in (
                (keepers, (TWENTY_FOUR,), 20000), (count_keepers, (TWENTY_FOUR,), 10000), (keepers, (GRID,), 5000),
                (matrices_between, (TWENTY_FOUR, TWENTY_FOUR), 20000), (row_kinds, (TWENTY_FOUR, 2), 25000),
                (first_unlike, (GRID, GRID, 200), 3000), (are_alike, (TWENTY_FOUR, TWENTY_FOUR), 4000)):
            self.assertLess(calls_of(call, *arguments), most, (call, arguments))


class Blocks(unittest.TestCase):
    """Forms with some equal and some unlike successive least values."""

    TABLES = (
        ((3, 1), (1, 5)), ((2, 1), (1, 5)), ((4, 2), (2, 7)), ((1, 0, 0), (0, 1, 0), (0, 0, 2)),
        ((1, 0, 0), (0, 2, 1), (0, 1, 2)), ((2, 1, 1), (1, 2, 1), (1, 1, 5)), ((2, 1, 0), (1, 3, 1), (0, 1, 3)),
        ((2, 1, 0, 0), (1, 2, 0, 0), (0, 0, 5, 1), (0, 0, 1, 5)), ((2, 1, 1, 0), (1, 2, 1, 1), (1, 1, 5, 2), (0, 1, 2, 6)),
        ((2, 1, 1, 1), (1, 2, 1, 1), (1, 1, 2, 1), (1, 1, 1, 3)), ((1, 0, 0, 0), (0, 3, 1, 1), (0, 1, 3, 1), (0, 1, 1, 3)),
        ((1, 0, 0, 0), (0, 2, 0, 0), (0, 0, 3, 0), (0, 0, 0, 5)), ((2, 0, 1, 1), (0, 2, 1, 1), (1, 1, 4, 1), (1, 1, 1, 4)))

    def test_keepers(self):
        chance = chance_of(67)
        for table in self.TABLES:
            form = Form(table)
            self.assertEqual(keepers(form), slow_matrices(table, table), table)
            matrix = some_matrix(chance, form.size, 4, 2)
            other = form.led(matrix)
            found = matrices_between(form, other)
            self.assertEqual(found, tuple(sorted(times(keeper, matrix) for keeper in keepers(form))))
            self.assertEqual(len(keepers(other)), len(found))

    def test_equal_blocks_ahead_only(self):
        one = Form(((2, 1, 0), (1, 2, 0), (0, 0, 4)))
        self.assertEqual(matrices_between(one, Form(((2, 0, 0), (0, 2, 0), (0, 0, 3)))), ())
        for table, another in (
                (((2, -1, -1), (-1, 4, 0), (-1, 0, 4)), ((2, 0, 0), (0, 4, 2), (0, 2, 4))),
                (((2, -1, 1), (-1, 4, -1), (1, -1, 4)), ((2, 0, 0), (0, 4, -2), (0, -2, 4)))):
            self.assertEqual(det(table), det(another))
            self.assertEqual(matrices_between(Form(table), Form(another)), ())
            self.assertEqual(matrices_between(Form(another), Form(table)), slow_matrices(another, table))
        other = Form(((2, 0, 1, 0), (0, 2, 0, 1), (1, 0, 5, 0), (0, 1, 0, 5)))
        another = Form(((2, 0, 1, 1), (0, 2, 0, 0), (1, 0, 5, 0), (1, 0, 0, 5)))
        self.assertEqual(matrices_between(other, another), slow_matrices(other.table, another.table))
