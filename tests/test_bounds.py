"""Bounds of densities [0.19], [13.1] to [13.6]."""

import unittest
from fractions import Fraction

from ballgrids.bound.bounds import (
    bound, bound_by, bound_paper, dual_product, is_bound_paper, is_densest, shortfall, value_product)
from ballgrids.cone.addresses import address, copies_beside, is_address
from ballgrids.cone.cones import behind, level_weights, wall_rows, wall_tables, weighted
from ballgrids.cone.told import NAMES, Copy, rays_of, told_form
from ballgrids.errors import InvalidForm, InvalidOperation
from ballgrids.form.forms import Form
from ballgrids.price.prices import least_price
from ballgrids.short.bases import successive_values
from ballgrids.short.rows import density, least_rows, least_value
from ballgrids.span.spans import is_perfect
from ballgrids.weight.weights import critical_forms, level_number
from tests.helper import (
    BODY, CUBE, FACED, FORMS, FOURTH, GRID, LONG, MOST, PLANE, TWENTY_FOUR, WRONG, adjoint, chance_of, det, far_matrix,
    many_forms, multiple, outcome, product_sum, ratio, some_matrix, some_table, square_of, sum_table, unit, value)

DENSITY = {"A2": (4, 3), "A3": (2, 1), "A4": (16, 5), "D4": (4, 1)}
SIZE = {"A2": 2, "A3": 3, "A4": 4, "D4": 4}
GREATEST = {2: Fraction(4, 3), 3: Fraction(2), 4: Fraction(4)}
CRITICAL = [form for size in (2, 3, 4) for form in critical_forms(size)]


def with_adjoint(table):
    """The form whose adjoint is a multiple of this table."""
    return Form(adjoint(table)).cleared()


def cones_about(form):
    """All copies in whose cones the table lies: each one is reached over walls on which it lies."""
    found = [address(form)[0]]
    for copy in found:
        found.extend(other for other in copies_beside(form, copy) if other not in found)
    return found


def dense_forms():
    """Forms whose adjoints lie on no wall, on one wall and on several walls of a copy of D4."""
    copy = Copy("D4", unit(4))
    tables = wall_tables(copy)
    made = [with_adjoint(weighted(copy, (1,) * 12)), with_adjoint(weighted(copy, tuple(range(1, 13))))]
    for table in tables[::3]:
        rows = wall_rows(copy, table)
        made.append(with_adjoint(weighted(copy, tuple(int(ray in rows) for ray in copy.rays))))
    for one, other in ((0, 1), (0, 17), (5, 40), (3, 63), (8, 24), (10, 11), (2, 50)):
        rows = set(wall_rows(copy, tables[one])) & set(wall_rows(copy, tables[other]))
        made.append(outcome(with_adjoint, weighted(copy, tuple(int(ray in rows) for ray in copy.rays))))
    return [form for form in made if isinstance(form, Form)]


class Papers(unittest.TestCase):
    def check_paper(self, form, paper):
        self.assertIs(type(paper), tuple)
        self.assertIs(is_bound_paper(form, paper), True)
        self.assertIs(is_address(form.adjoint, paper), True)
        copy, scale, weights = paper
        self.assertEqual(bound_by(form, paper), DENSITY[copy.name])
        self.assertEqual(multiple(adjoint(form.table), scale), sum_table([square_of(ray) for ray in copy.rays], weights))
        self.assertLess(max([abs(n) for row in copy.matrix for n in row] + list(weights)), 10 ** 400)

    def test_13_1_papers(self):
        for form in many_forms(161, 25) + CRITICAL + dense_forms():
            paper = bound_paper(form)
            self.check_paper(form, paper)
            self.assertEqual(bound_by(form, paper), bound(form))

    def test_13_1_why(self):
        for form in many_forms(162, 15) + CRITICAL:
            copy, scale, weights = bound_paper(form)
            whole = form.size * form.determinant * scale
            made = sum(weight * value(form.table, ray) for ray, weight in zip(copy.rays, weights))
            self.assertEqual(made, whole)
            self.assertGreaterEqual(whole, least_value(form) * sum(weights))
            self.assertEqual(product_sum(copy.form.table, adjoint(form.table)) * scale, 2 * sum(weights))
            mean = Fraction(2 * sum(weights), scale * form.size) ** form.size
            self.assertGreaterEqual(mean, copy.form.determinant * det(adjoint(form.table)))

    def test_all_papers(self):
        # An address by any copy in whose cone the adjoint lies is a bound paper, also one by a denser told form.
        dearer = 0
        for form in CRITICAL + dense_forms():
            told = set()
            for copy in cones_about(form.adjoint):
                paper = (copy,) + level_weights(copy, form.adjoint.table)
                self.check_paper(form, paper)
                told.add(bound_by(form, paper))
            self.assertEqual(bound(form), min(told, key=lambda pair: Fraction(*pair)))
            dearer += len(told) > 1
        self.assertGreater(dearer, 2)

    def test_far_forms(self):
        chance = chance_of(163)
        for size in (2, 3, 4):
            for form in (Form(some_table(chance, size, 10 ** 29)), Form.diagonal(*[1] * size).led(far_matrix(chance, size, 29)),
                         Form.diagonal(*[MOST] * size)):
                self.check_paper(form, bound_paper(form))
        far = TWENTY_FOUR.led(far_matrix(chance, 4, 60)).led(far_matrix(chance, 4, 60))
        self.check_paper(far, bound_paper(far))

    def test_judging(self):
        for form in FORMS:
            paper = bound_paper(form)
            copy, scale, weights = paper
            for wrong in (
                    paper[:2], list(paper), paper + (1,), (copy, scale + 1, weights), (copy, scale, list(weights)),
                    (copy, 2 * scale, tuple(2 * weight for weight in weights)), (copy.form, scale, weights), None, copy,
                    (copy, scale, tuple(-weight for weight in weights)), (copy, str(scale), weights)):
                self.assertIs(is_bound_paper(form, wrong), False)
                self.assertIs(type(outcome(bound_by, form, wrong)), InvalidOperation)
            for wrong in WRONG:
                self.assertIs(is_bound_paper(form, wrong), False)
                self.assertIs(is_bound_paper(form, (wrong, scale, weights)), False)
                self.assertIs(is_bound_paper(form, (copy, wrong, weights)), False)
                self.assertIs(is_bound_paper(form, (copy, scale, wrong)), False)
                self.assertIs(type(outcome(bound_by, form, wrong)), InvalidOperation)
        self.assertIs(is_bound_paper(BODY, bound_paper(FACED)), False)
        self.assertIs(is_bound_paper(CUBE, (Copy.first(3), 1, (1, 0, 1, 0, 0, 1))), True)
        self.assertIs(is_bound_paper(CUBE, (Copy.first(3), True, (1, 0, 1, 0, 0, 1))), False)
        self.assertIs(is_bound_paper(CUBE, (Copy.first(3), 1, (True, 0, 1, 0, 0, 1))), False)
        self.assertIs(is_bound_paper(CUBE, (Copy.first(3), 1, (1, False, 1, 0, 0, 1))), False)


class Bounds(unittest.TestCase):
    def test_13_2_bounds(self):
        chance = chance_of(164)
        seen = set()
        for form in many_forms(165, 20) + CRITICAL + dense_forms():
            told = bound(form)
            seen.add(told)
            self.assertIn(told, {2: [(4, 3)], 3: [(2, 1)], 4: [(16, 5), (4, 1)]}[form.size])
            self.assertEqual(bound(form.led(some_matrix(chance, form.size, 4, 2))), told)
            self.assertEqual(bound(form * 7), told)
        self.assertEqual(len(seen), 4)

    def test_13_2_walls_of_d4(self):
        copy = Copy("D4", unit(4))
        self.assertEqual(bound(with_adjoint(weighted(copy, (1,) * 12))), (4, 1))
        counts = {(4, 1): 0, (16, 5): 0}
        for table in wall_tables(copy):
            rows = wall_rows(copy, table)
            form = with_adjoint(weighted(copy, tuple(2 * int(ray in rows) for ray in copy.rays)))
            told = bound(form)
            self.assertEqual(told, DENSITY[behind(copy, table).name])
            counts[told] += 1
        self.assertEqual(counts, {(4, 1): 16, (16, 5): 48})

    def test_13_2_several_walls(self):
        copy = Copy("D4", unit(4))
        tables = wall_tables(copy)
        for one in range(0, 64, 5):
            for other in range(one + 1, 64, 7):
                rows = set(wall_rows(copy, tables[one])) & set(wall_rows(copy, tables[other]))
                table = weighted(copy, tuple(int(ray in rows) for ray in copy.rays))
                if isinstance(outcome(Form, table), Form):
                    self.assertEqual(bound(with_adjoint(table)), (16, 5))

    def test_13_3_densities(self):
        for form in many_forms(166, 25) + CRITICAL + [told_form(name) * 3 for name in NAMES] + dense_forms():
            told, limit = Fraction(*density(form)), Fraction(*bound(form))
            self.assertLessEqual(told, limit)
            self.assertEqual(told == limit, is_perfect(form))
            self.assertLessEqual(limit, GREATEST[form.size])

    def test_13_4_shortfalls(self):
        for form in many_forms(167, 20) + CRITICAL:
            top, bottom = least_price(form.adjoint)
            expected = form.size * form.determinant - least_value(form) * Fraction(top, bottom)
            self.assertEqual(shortfall(form), ratio(expected))
            self.assertGreaterEqual(expected, 0)
            self.assertEqual(expected == 0, level_number(form) > 0)
        self.assertEqual(shortfall(Form.diagonal(1, 1, 2)), (1, 1))
        self.assertEqual(shortfall(Form(((4, 1), (1, 4)))), (2, 1))

    def test_is_densest(self):
        chance = chance_of(168)
        for form in many_forms(169, 20) + CRITICAL:
            self.assertIs(is_densest(form), Fraction(*density(form)) == GREATEST[form.size])
        for name in ("A2", "A3", "D4"):
            form = told_form(name)
            self.assertIs(is_densest(form.led(some_matrix(chance, form.size, 5, 3)) * 12), True)
            self.assertEqual(least_rows(form), rays_of(name))
        self.assertIs(is_densest(FOURTH), False)

    def test_13_5_dual_products(self):
        best = {2: Fraction(4, 3), 3: Fraction(3, 2), 4: Fraction(2)}
        for form in many_forms(170, 25) + CRITICAL:
            expected = Fraction(least_value(form) * least_value(form.adjoint), form.determinant)
            self.assertEqual(dual_product(form), ratio(expected))
            self.assertEqual(dual_product(form * 5), ratio(expected))
            self.assertLessEqual(expected, best[form.size])

    def test_13_5_value_products(self):
        for form in many_forms(171, 25) + CRITICAL:
            expected = Fraction(1, form.determinant)
            for number in successive_values(form):
                expected *= number
            self.assertEqual(value_product(form), ratio(expected))
            self.assertLessEqual(Fraction(*density(form)), expected)
            self.assertLessEqual(expected, GREATEST[form.size])


class Errors(unittest.TestCase):
    def test_wrong_forms(self):
        for wrong in WRONG + (Copy.first(2), LONG):
            if isinstance(wrong, Form):
                continue
            for call in (bound, bound_paper, shortfall, is_densest, dual_product, value_product):
                self.assertIs(type(outcome(call, wrong)), InvalidForm)
            for call in (is_bound_paper, bound_by):
                self.assertIs(type(outcome(call, wrong, None)), InvalidForm)
                self.assertIs(type(outcome(call, wrong, bound_paper(PLANE))), InvalidForm)

    def test_nothing_changes(self):
        for form in FORMS:
            before = str(form)
            for call in (bound, shortfall, is_densest, dual_product, value_product):
                self.assertEqual(call(form), call(form))
            one, other = bound_paper(form), bound_paper(form)
            self.assertTrue(one == other and one[0].matrix == other[0].matrix)
            self.assertEqual(str(form), before)


class Untrue(unittest.TestCase):
    def test_13_6_shortfalls(self):
        self.assertEqual(shortfall(CUBE), (0, 1))
        self.assertFalse(is_perfect(CUBE))

    def test_13_6_dual_products(self):
        found = [
            (one, other) for one in CRITICAL for other in CRITICAL if one.size == other.size
            and Fraction(*density(one)) > Fraction(*density(other))
            and Fraction(*dual_product(one)) <= Fraction(*dual_product(other))]
        self.assertGreater(len(found), 0)
        self.assertEqual(dual_product(FACED), dual_product(BODY))

    def test_13_6_the_greatest_dual_product(self):
        self.assertEqual(dual_product(BODY), (3, 2))
        self.assertFalse(is_perfect(BODY))

    def test_grid(self):
        self.assertEqual((bound(GRID), value_product(GRID), SIZE["D4"]), ((16, 5), (1, 1), 4))
