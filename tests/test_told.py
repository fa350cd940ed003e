"""Told forms, frames and copies [0.7], [0.14] to [0.16], [6.1], [6.2]."""

import unittest
from fractions import Fraction

from ballgrids.alike.alikes import keepers
from ballgrids.cone.cones import behind, wall_tables
from ballgrids.cone.told import NAMES, Copy, frames, has_ray, rays_of, told_form
from ballgrids.errors import InvalidMatrix, InvalidNumber, UnknownName
from ballgrids.form.forms import Form
from ballgrids.form.matrices import led_row, matrix_product
from ballgrids.short.rows import density, least_rows, least_value
from tests.helper import (
    FACED, FOURTH, LONG, MOST, PLANE, TWENTY_FOUR, WRONG, adjoint, chance_of, det, far_matrix, inverse, lead, led, normal,
    outcome, pairing, rows_below, some_matrix, square_of, sum_table, times, unit, value)

SIZE = {"A2": 2, "A3": 3, "A4": 4, "D4": 4}
FORM = {"A2": PLANE, "A3": FACED, "A4": FOURTH, "D4": TWENTY_FOUR}
FIRST = {2: "A2", 3: "A3", 4: "A4"}
KEEPING = {"A2": 12, "A3": 48, "A4": 240, "D4": 1152}
WRONG_NAMES = tuple(wrong for wrong in WRONG) + (
    "A1", "a2", "A2 ", "D3", "E8", "A5", ("A2",), ["A2"], {"A2": 1}, b"A2".decode() + "\n", 2, 0, 1)


def copies(seed, count):
    """Copies of all told forms, by the unit matrix, by some matrices and by such with many digits."""
    chance = chance_of(seed)
    made = [Copy(name, unit(SIZE[name])) for name in NAMES]
    for number in range(count):
        for name in NAMES:
            size = SIZE[name]
            made.append(Copy(name, some_matrix(chance, size, 2 + number % 5, 2)))
    for name in NAMES:
        made.append(Copy(name, far_matrix(chance, SIZE[name], 60)))
        made.append(Copy(name, far_matrix(chance, SIZE[name], 30)).led(far_matrix(chance, SIZE[name], 60)))
    return made


class ToldForms(unittest.TestCase):
    def test_names(self):
        self.assertEqual(NAMES, ("A2", "A3", "A4", "D4"))
        self.assertIs(type(NAMES), tuple)

    def test_0_14_forms(self):
        for name, size in SIZE.items():
            table = told_form(name).table
            self.assertIs(type(told_form(name)), Form)
            self.assertEqual(len(table), size)
            if name != "D4":
                self.assertTrue(all(table[i][j] == 2 if i == j else table[i][j] == 1
                                    for i in range(size) for j in range(size)))
        self.assertEqual(told_form("D4").table, ((2, 1, 1, 1), (1, 2, 1, 1), (1, 1, 2, 0), (1, 1, 0, 2)))
        told = [told_form(name) for name in NAMES]
        self.assertEqual([form.determinant for form in told], [3, 4, 5, 4])
        self.assertEqual([least_value(form) for form in told], [2, 2, 2, 2])
        self.assertEqual([density(form) for form in told], [(4, 3), (2, 1), (16, 5), (4, 1)])

    def test_0_14_rays_are_the_least_rows(self):
        for name in NAMES:
            rays = rays_of(name)
            self.assertIs(type(rays), tuple)
            self.assertEqual(rays, least_rows(told_form(name)))
            self.assertEqual(rays, tuple(row for number, row in rows_below(FORM[name].table, 2)))
        self.assertEqual([len(rays_of(name)) for name in NAMES], [3, 6, 10, 12])

    def test_6_1_rays_of_letters(self):
        for name in ("A2", "A3", "A4"):
            size = SIZE[name]
            rows = list(unit(size))
            for i in range(size):
                for j in range(i + 1, size):
                    rows.append(tuple(int(k == i) - int(k == j) for k in range(size)))
            self.assertEqual(rays_of(name), tuple(sorted(rows)))

    def test_6_1_frames(self):
        told = frames()
        self.assertIs(type(told), tuple)
        self.assertEqual(told, (
            ((0, 0, 0, 1), (0, 0, 1, 0), (1, -1, 0, 0), (1, 1, -1, -1)),
            ((0, 1, -1, -1), (0, 1, 0, 0), (1, 0, -1, 0), (1, 0, 0, -1)),
            ((0, 1, -1, 0), (0, 1, 0, -1), (1, 0, -1, -1), (1, 0, 0, 0))))
        self.assertEqual(tuple(sorted(row for frame in told for row in frame)), rays_of("D4"))
        for frame in told:
            self.assertEqual(frame, tuple(sorted(frame)))
            self.assertEqual(
                sum_table([square_of(row) for row in frame]),
                ((2, 0, -1, -1), (0, 2, -1, -1), (-1, -1, 2, 1), (-1, -1, 1, 2)))

    def test_0_16_frames_are_right_angled(self):
        table = TWENTY_FOUR.table
        for index, frame in enumerate(frames()):
            for row in frame:
                self.assertTrue(all(pairing(table, row, other) == 0 for other in frame if other != row))
                self.assertTrue(all(
                    pairing(table, row, other) != 0 for told in frames()[:index] + frames()[index + 1:] for other in told))

    def test_has_ray(self):
        for name in NAMES:
            size = SIZE[name]
            for ray in rays_of(name):
                self.assertIs(has_ray(name, ray), True)
                self.assertIs(has_ray(name, tuple(-n for n in ray)), True)
                self.assertIs(has_ray(name, list(ray)), False)
                self.assertIs(has_ray(name, tuple(bool(n) if n == 1 else n for n in ray)), False)
                self.assertIs(has_ray(name, tuple(2 * n for n in ray)), False)
                self.assertIs(has_ray(name, ray + (0,)), False)
                self.assertIs(has_ray(name, ray[:-1]), False)
            self.assertIs(has_ray(name, (0,) * size), False)
            self.assertIs(has_ray(name, (1,) * size), False)
            self.assertIs(has_ray(name, (10 ** 99,) * size), False)
            for wrong in WRONG:
                self.assertIs(has_ray(name, wrong), False)
        self.assertIs(has_ray("A4", (1, 1, -1, -1)), False)
        self.assertIs(has_ray("D4", (0, 0, 1, -1)), False)

    def test_wrong_names(self):
        for wrong in WRONG_NAMES:
            for call in (told_form, rays_of, lambda name: has_ray(name, (0, 1)), lambda name: has_ray(name, None),
                         lambda name: Copy(name, unit(2)), lambda name: Copy(name, None)):
                error = outcome(call, wrong)
                self.assertIs(type(error), UnknownName, wrong)
                self.assertIs(error.wanted, wrong)


class Copies(unittest.TestCase):
    def test_0_15_rays_and_form(self):
        for copy in copies(3, 6):
            name, matrix = copy.name, copy.matrix
            self.assertEqual(copy.size, SIZE[name])
            self.assertEqual(copy.rays, tuple(normal(lead(matrix, ray)) for ray in rays_of(name)))
            self.assertEqual(copy.rows, tuple(sorted(copy.rays)))
            self.assertEqual(copy.form.table, led(FORM[name].table, inverse(matrix)))
            self.assertIs(type(copy.form), Form)
            for row in ((1,) * copy.size, (3, -1, 2, 5)[:copy.size]):
                self.assertEqual(value(copy.form.table, lead(matrix, row)), value(FORM[name].table, row))

    def test_6_2_rows_are_the_least_rows_of_the_form(self):
        for copy in copies(4, 4):
            self.assertEqual(least_value(copy.form), 2)
            self.assertEqual(least_rows(copy.form), copy.rows)

    def test_6_2_equal_copies_by_unlike_matrices(self):
        chance = chance_of(8)
        for name in NAMES:
            matrix = some_matrix(chance, SIZE[name], 4, 2)
            copy = Copy(name, matrix)
            kept = keepers(told_form(name))
            self.assertEqual(len(kept), KEEPING[name])
            for keeper in kept[::1 if len(kept) < 300 else 37]:
                other = Copy(name, matrix_product(matrix, keeper))
                self.assertTrue(other == copy)
                self.assertFalse(other != copy)
                self.assertEqual(other.rows, copy.rows)
                self.assertEqual(other.form, copy.form)
            for _ in range(20):
                step = some_matrix(chance, SIZE[name], 3, 1)
                other = Copy(name, matrix_product(matrix, step))
                self.assertIs(other == copy, step in kept)
                self.assertIs(other.form == copy.form, step in kept)
                self.assertIs(other.rows == copy.rows, step in kept)

    def test_a_copy_that_has_another_order_of_its_rays(self):
        copy = Copy("A2", ((0, 1), (1, 0)))
        self.assertEqual(copy.rays, ((1, 0), (1, -1), (0, 1)))
        self.assertEqual(copy.rows, ((0, 1), (1, -1), (1, 0)))
        self.assertTrue(copy == Copy.first(2))

    def test_first(self):
        for size, name in FIRST.items():
            copy = Copy.first(size)
            self.assertEqual((copy.name, copy.size, copy.matrix), (name, size, unit(size)))
            self.assertIs(type(copy), Copy)
            self.assertEqual(copy.rays, rays_of(name))
            self.assertEqual(copy.form, told_form(name))
        for wrong in WRONG + (0, 1, 5, -2, "2", (2,)):
            error = outcome(Copy.first, wrong)
            self.assertIs(type(error), InvalidNumber, wrong)
            self.assertIs(error.given, wrong)

    def test_led(self):
        chance = chance_of(12)
        for copy in copies(9, 3):
            matrix = some_matrix(chance, copy.size, 4, 3)
            other = copy.led(matrix)
            self.assertEqual((other.name, other.matrix), (copy.name, times(matrix, copy.matrix)))
            self.assertEqual(other.rays, tuple(normal(led_row(matrix, ray)) if max(map(abs, ray)) < LONG
                                               else normal(lead(matrix, ray)) for ray in copy.rays))
            self.assertEqual(other.rows, tuple(sorted(other.rays)))
            self.assertEqual(other.form.table, led(copy.form.table, inverse(matrix)))
            self.assertTrue(other.led(inverse(matrix)) == copy)

    def test_led_further_and_further(self):
        chance = chance_of(5)
        for name in NAMES:
            copy = Copy(name, unit(SIZE[name]))
            whole = unit(SIZE[name])
            for _ in range(6):
                matrix = far_matrix(chance, SIZE[name], 60)
                copy, whole = copy.led(matrix), times(matrix, whole)
            self.assertEqual(copy.matrix, whole)
            self.assertGreater(max(abs(n) for row in copy.matrix for n in row), 10 ** 200)
            self.assertEqual(copy.form.table, led(FORM[name].table, inverse(whole)))
            self.assertIn(copy.rows[0], copy)
            self.assertEqual(least_rows(copy.form), copy.rows)
            self.assertEqual(str(copy), "copy of " + name)

    def test_wrong_matrices(self):
        for name in NAMES:
            size = SIZE[name]
            wrong_ones = [wrong for wrong in WRONG if wrong != unit(size)]
            wrong_ones += [unit(told) for told in (2, 3, 4) if told != size] + [
                list(unit(size)), tuple(map(list, unit(size))), ((0,) * size,) * size, unit(size) + ((0,) * size,),
                ((1, LONG) + (0,) * (size - 2),) + unit(size)[1:], ((2,) + (0,) * (size - 1),) + unit(size)[1:],
                ((True,) + (0,) * (size - 1),) + unit(size)[1:], Copy(name, unit(size)), "A2"]
            for wrong in wrong_ones:
                self.assertIs(type(outcome(Copy, name, wrong)), InvalidMatrix, wrong)
                self.assertIs(type(outcome(Copy(name, unit(size)).led, wrong)), InvalidMatrix, wrong)
            whole = ((1, MOST) + (0,) * (size - 2),) + unit(size)[1:]
            self.assertEqual(Copy(name, whole).matrix, whole)


class Objects(unittest.TestCase):
    def test_equality(self):
        made = copies(6, 2)
        for copy in made:
            self.assertTrue(copy == Copy(copy.name, copy.matrix) if max(map(abs, sum(copy.matrix, ()))) < LONG else True)
            for wrong in WRONG + (copy.rows, copy.form, copy.matrix, copy.name, list(copy.rows), str(copy)):
                self.assertIs(copy == wrong, False)
                self.assertIs(copy != wrong, True)
                self.assertIs(wrong == copy, False)
            for other in made:
                self.assertIs(copy == other, copy.rows == other.rows)
                self.assertIs(copy == other, copy.form == other.form)
                self.assertIs(copy != other, not copy == other)
        # A copy of A4 and one of D4 have unlike rows.
        self.assertFalse(Copy("A4", unit(4)) == Copy("D4", unit(4)))

    def test_in(self):
        for copy in copies(7, 2):
            for row in copy.rows:
                self.assertIs(row in copy, True)
                self.assertIs(tuple(-n for n in row) in copy, True)
                self.assertIs(list(row) in copy, False)
                self.assertIs(tuple(2 * n for n in row) in copy, False)
                self.assertIs(row + (0,) in copy, False)
                self.assertIs((row,) in copy, False)
            for wrong in WRONG + ((0,) * copy.size, copy, copy.form, copy.rows, copy.name):
                self.assertIs(wrong in copy, False)
                self.assertIs(wrong not in copy, True)
        first = Copy.first(2)
        for row in ((True, False), (1, False), (0, True), (True, -1)):
            self.assertIs(row in first, False)

    def test_len_and_iteration(self):
        for copy in copies(10, 2):
            self.assertEqual(len(copy), len(rays_of(copy.name)))
            self.assertEqual(list(copy), list(copy.rows))
            self.assertEqual(tuple(copy), copy.rows)
            self.assertEqual([row for row in copy], sorted(copy))
            self.assertEqual(list(zip(copy, copy)), list(zip(copy.rows, copy.rows)))

    def test_str(self):
        self.assertEqual([str(Copy(name, unit(SIZE[name]))) for name in NAMES],
                         ["copy of A2", "copy of A3", "copy of A4", "copy of D4"])

    def test_kinds_of_what_is_returned(self):
        for copy in copies(1, 1):
            for told in (copy.matrix, copy.rays, copy.rows):
                self.assertIs(type(told), tuple)
                self.assertTrue(all(type(row) is tuple and all(type(n) is int for n in row) for row in told))
            self.assertIs(type(copy.name), str)
            self.assertIs(type(copy.size), int)

    def test_nothing_changes(self):
        for copy in copies(2, 1):
            before = (copy.name, copy.matrix, copy.size, copy.rays, copy.rows, copy.form.table, str(copy), len(copy))
            copy.led(unit(copy.size))
            outcome(copy.led, None)
            list(copy)
            self.assertIs(None in copy, False)
            if max(map(abs, sum(wall_tables(copy)[0], ()))) < LONG:
                behind(copy, wall_tables(copy)[0])
            self.assertEqual(
                (copy.name, copy.matrix, copy.size, copy.rays, copy.rows, copy.form.table, str(copy), len(copy)), before)
            for name in ("name", "matrix", "size", "rays", "rows", "form"):
                self.assertIs(type(outcome(setattr, copy, name, None)), AttributeError)

    def test_the_form_and_its_adjoint_are_positive(self):
        for copy in copies(14, 1):
            table = copy.form.table
            self.assertEqual(det(table), det(FORM[copy.name].table))
            self.assertEqual(Fraction(least_value(copy.form) ** copy.size, det(table)),
                             Fraction(*density(told_form(copy.name))))
            self.assertEqual(copy.form.adjoint.table, adjoint(table))
