"""Prices [0.20], [12.1] to [12.7]."""

import unittest
from fractions import Fraction

from ballgrids.alike.alikes import are_alike
from ballgrids.cone.addresses import address, copies_beside, face_of
from ballgrids.cone.cones import behind, crossed, is_in_cone, wall_tables, weighted
from ballgrids.cone.told import NAMES, Copy, told_form
from ballgrids.errors import InvalidCopy, InvalidForm, InvalidNumber, InvalidOperation, InvalidTable
from ballgrids.form.forms import Form
from ballgrids.price.prices import (
    is_cheapest, is_price_paper, is_price_table, is_writing, least_price, price_at, price_excess, price_of, price_paper,
    sum_of_writing)
from ballgrids.short.rows import least_value
from ballgrids.weight.weights import critical_forms
from tests.helper import (
    BODY, CUBE, FACED, FORMS, FOURTH, GRID, LONG, MOST, PLANE, TWENTY_FOUR, WRONG, chance_of, det, far_matrix, led,
    many_forms, multiple, outcome, product_sum, ratio, some_matrix, some_table, square_of, sum_table, unit, value)

SIZE = {"A2": 2, "A3": 3, "A4": 4, "D4": 4}
CRITICAL = [form for size in (2, 3, 4) for form in critical_forms(size)]
UNITS = (((0, 1), (1, 0), (1, 1)), (1, 1, 1), 1)


def told(name):
    return Copy(name, unit(SIZE[name]))


def writing_of(form):
    """The writing by the face rows."""
    rows, scale, weights = face_of(form)
    return (rows, weights, scale)


def other_writings(form, chance, count):
    """Writings of some forms that are made of them."""
    size = form.size
    for _ in range(count):
        rows = sorted({normal_row(tuple(chance.randint(-3, 3) for _ in range(size))) for _ in range(size + 3)} - {None})
        weights = tuple(chance.randint(1, 4) for _ in rows)
        table = sum_table([square_of(row) for row in rows], weights)
        if isinstance(outcome(Form, table), Form):
            yield Form(table), (tuple(rows), weights, 1)


def normal_row(row):
    lead = next((number for number in row if number), 0)
    return row if lead > 0 else None


class PriceTables(unittest.TestCase):
    def test_12_1_price_tables(self):
        for form in many_forms(141, 20):
            least = least_value(form)
            self.assertIs(is_price_table(form.size, form.table, least), True)
            self.assertIs(is_price_table(form.size, form.table, 1), True)
            self.assertIs(is_price_table(form.size, form.table, least + 1), False)
            self.assertIs(is_price_table(form.size, form.table, MOST), False)
        for table in (((1, 1), (1, 1)), ((0, 0), (0, 0)), ((1, 2), (2, 1)), ((-2, 0), (0, -2)), ((1, 0), (0, -1))):
            self.assertIs(is_price_table(2, table, 1), False)
        self.assertIs(is_price_table(2, ((MOST, 0), (0, MOST)), MOST), True)

    def test_12_1_prices(self):
        chance = chance_of(142)
        for form in many_forms(143, 10):
            for _ in range(3):
                table = some_table(chance, form.size, 3)
                bottom = chance.randint(1, least_value(Form(table)))
                self.assertEqual(price_of(form, table, bottom), ratio(Fraction(product_sum(table, form.table), bottom)))

    def test_errors(self):
        for wrong in WRONG + (0, 1, 5):
            error = outcome(is_price_table, wrong, None, None)
            self.assertIs(type(error), InvalidNumber)
            self.assertIs(error.given, wrong)
        for wrong in WRONG + (((1, 2), (3, 4)), ((LONG, 0), (0, 1)), unit(3)):
            for bottom in (1, 0, None):
                self.assertIs(type(outcome(is_price_table, 2, wrong, bottom)), InvalidTable)
                self.assertIs(type(outcome(price_of, PLANE, wrong, bottom)), InvalidTable)
                self.assertIs(type(outcome(price_excess, PLANE, wrong, bottom, None)), InvalidTable)
        for wrong in WRONG + (0, -1):
            for table in (unit(2), ((1, 1), (1, 1))):
                for call, arguments in (
                        (is_price_table, (2, table, wrong)), (price_of, (PLANE, table, wrong)),
                        (price_excess, (PLANE, table, wrong, None)), (price_excess, (PLANE, table, wrong, UNITS))):
                    error = outcome(call, *arguments)
                    self.assertIs(type(error), InvalidNumber)
                    self.assertIs(error.given, wrong)
        for table, bottom in ((((1, 1), (1, 1)), 1), (unit(2), 2), (((2, 1), (1, 2)), 3), (((-1, 0), (0, 1)), 1)):
            self.assertIs(type(outcome(price_of, PLANE, table, bottom)), InvalidOperation)
            self.assertIs(type(outcome(price_excess, PLANE, table, bottom, UNITS)), InvalidOperation)


class Writings(unittest.TestCase):
    def test_12_2_writings(self):
        chance = chance_of(144)
        for form in many_forms(145, 15) + CRITICAL:
            for some_form in (form, form * 3, form.led(some_matrix(chance, form.size, 3, 2))):
                writing = writing_of(some_form)
                self.assertIs(is_writing(some_form, writing), True)
                rows, weights, scale = writing
                self.assertIs(is_writing(some_form, (rows, tuple(5 * weight for weight in weights), 5 * scale)), True)
                self.assertEqual(sum_of_writing(some_form, writing), ratio(Fraction(sum(weights), scale)))
        for form, writing in other_writings(GRID, chance, 20):
            self.assertIs(is_writing(form, writing), True)
            self.assertIs(is_writing(form * 2, writing), False)

    def test_12_2_judging(self):
        rows, weights, scale = UNITS
        self.assertIs(is_writing(PLANE, UNITS), True)
        self.assertIs(is_writing(PLANE, (rows, (7 * 10 ** 99,) * 3, 7 * 10 ** 99)), True)
        for wrong in (
                (rows[::-1], weights, scale), (rows + rows[-1:], weights + (1,), scale), (rows, weights, 2),
                ((rows[0], rows[2], rows[1]), weights, scale), ((rows[1], rows[0], rows[2]), weights, scale),
                (rows[:1] + rows, (1, 1, 2, 2), 2), (rows + rows[-1:], (2, 2, 1, 1), 2),
                (rows, (2, 2, 2), 1), (rows, (1, 1), scale), (rows, (1, 1, 1, 0), scale), (rows + ((1, 2),), (1, 1, 1, 0), 1),
                (((0, -1), (1, 0), (1, 1)), weights, scale), (((0, 1), (1, 0), (-1, -1)), weights, scale),
                (((0, 0),) + rows, (1,) + weights, 1), (list(rows), weights, scale), (rows, list(weights), scale),
                [rows, weights, scale], (rows, weights), (rows, weights, scale, 1), (rows, (1, 1, True), scale),
                (rows, weights, True), (rows, weights, -1), (rows, weights, 0), (rows, (-1, -1, -1), -1), ((), (), 1),
                ((), (), 0), (rows, None, 1), (None, weights, 1), (((0, True), (1, 0), (1, 1)), weights, 1),
                (((0, 1), (1, 0), [1, 1]), weights, 1), (((0, 1, 0), (1, 0, 0), (1, 1, 0)), weights, 1),
                (((0, 1), (1, 0)), (1, 1), 1), (rows, "111", 1), UNITS[:2] + ("1",), PLANE, Copy.first(2)):
            self.assertIs(is_writing(PLANE, wrong), False, wrong)
            self.assertIs(type(outcome(sum_of_writing, PLANE, wrong)), InvalidOperation)
            self.assertIs(type(outcome(price_excess, PLANE, unit(2), 1, wrong)), InvalidOperation)
        for form in FORMS:
            for wrong in WRONG:
                self.assertIs(is_writing(form, wrong), False)
                self.assertIs(is_writing(form, (wrong, (1, 1), 1)), False)
                self.assertIs(is_writing(form, (writing_of(form)[0], wrong, 1)), False)
                self.assertIs(is_writing(form, writing_of(form)[:2] + (wrong,)), False)
                self.assertIs(type(outcome(sum_of_writing, form, wrong)), InvalidOperation)

    def test_several_writings(self):
        # Of the same table: by the rays of one frame or another, and with the least integers or not.
        frame = (((0, 0, 0, 1), (0, 0, 1, 0), (1, -1, 0, 0), (1, 1, -1, -1)), (1, 1, 1, 1), 1)
        other = (((0, 1, -1, -1), (0, 1, 0, 0), (1, 0, -1, 0), (1, 0, 0, -1)), (2, 2, 2, 2), 2)
        form = Form(((2, 0, -1, -1), (0, 2, -1, -1), (-1, -1, 2, 1), (-1, -1, 1, 2)))
        self.assertTrue(is_writing(form, frame) and is_writing(form, other))
        self.assertEqual(sum_of_writing(form, frame), sum_of_writing(form, other))
        self.assertEqual(least_price(form), (4, 1))

    def test_long_integers(self):
        chance = chance_of(146)
        for form in (PLANE, BODY, TWENTY_FOUR):
            far = form.led(far_matrix(chance, form.size, 60)).led(far_matrix(chance, form.size, 60))
            writing = writing_of(far)
            self.assertGreater(max(abs(n) for row in writing[0] for n in row), 10 ** 90)
            self.assertIs(is_writing(far, writing), True)
            self.assertEqual(sum_of_writing(far, writing), least_price(form))
            self.assertIs(is_price_paper(far, price_paper(far)), True)


class Prices(unittest.TestCase):
    def test_12_3_prices_and_sums(self):
        chance = chance_of(147)
        for form in many_forms(148, 12):
            writing = writing_of(form)
            for _ in range(4):
                table = some_table(chance, form.size, 2)
                bottom = least_value(Form(table))
                price, total = Fraction(*price_of(form, table, bottom)), Fraction(*sum_of_writing(form, writing))
                self.assertGreaterEqual(price, total)
                self.assertEqual(price_excess(form, table, bottom, writing), ratio(price - total))
                self.assertEqual(price == total, all(value(table, row) == bottom for row in writing[0]))

    def test_12_4_least_prices(self):
        chance = chance_of(149)
        for form in many_forms(150, 15) + CRITICAL:
            least = Fraction(*least_price(form))
            self.assertEqual(sum_of_writing(form, writing_of(form)), ratio(least))
            for name in NAMES:
                if SIZE[name] == form.size:
                    for copy in (told(name), Copy(name, some_matrix(chance, form.size, 3, 1))):
                        price = Fraction(*price_at(copy, form))
                        self.assertEqual(price, Fraction(product_sum(copy.form.table, form.table), 2))
                        self.assertGreaterEqual(price, least)
                        self.assertIs(is_cheapest(copy, form), price == least)
                        self.assertIs(is_cheapest(copy, form), is_in_cone(copy, form.table))
        for form, writing in other_writings(GRID, chance, 30):
            self.assertLessEqual(Fraction(*sum_of_writing(form, writing)), Fraction(*least_price(form)))

    def test_12_4_walls(self):
        for name in NAMES:
            copy = told(name)
            for table in wall_tables(copy)[::5]:
                on_wall = Form(weighted(copy, tuple(int(value(table, ray) == 0) for ray in copy.rays)))
                self.assertTrue(is_cheapest(copy, on_wall) and is_cheapest(behind(copy, table), on_wall))
                inside = Form(weighted(copy, (1,) * len(copy)))
                self.assertFalse(is_cheapest(behind(copy, table), inside))

    def test_12_5_alike_forms_and_multiples(self):
        chance = chance_of(151)
        for form in many_forms(152, 12) + CRITICAL:
            top, bottom = least_price(form)
            self.assertEqual(least_price(form.led(some_matrix(chance, form.size, 4, 2))), (top, bottom))
            self.assertEqual(least_price(form.led(far_matrix(chance, form.size, 25))), (top, bottom))
            self.assertEqual(Fraction(*least_price(form * 6)), 6 * Fraction(top, bottom))
        self.assertEqual(least_price(TWENTY_FOUR.adjoint), (8, 1))

    def test_12_5_sums(self):
        chance = chance_of(153)
        forms = many_forms(154, 10, 2)
        seen = set()
        for one in forms:
            for other in chance.sample(forms, 6):
                if one.size == other.size:
                    total = Fraction(*least_price(one)) + Fraction(*least_price(other))
                    both = Fraction(*least_price(one + other))
                    self.assertGreaterEqual(both, total)
                    shared = shares_a_cone(one, other)
                    self.assertEqual(both == total, shared)
                    seen.add(shared)
        self.assertEqual(seen, {True, False})

    def test_12_6_least_prices_and_determinants(self):
        best = {2: Fraction(4, 3), 3: Fraction(2), 4: Fraction(4)}
        equal = {2: told_form("A2").adjoint, 3: told_form("A3").adjoint, 4: told_form("D4").adjoint}
        for form in many_forms(155, 15) + CRITICAL + [equal[size] * 3 for size in (2, 3, 4)]:
            left = Fraction(*least_price(form)) ** form.size
            right = form.size ** form.size * det(form.table) / best[form.size]
            self.assertGreaterEqual(left, right)
            self.assertEqual(left == right, are_alike(form.cleared(), equal[form.size].cleared()))

    def test_0_20_papers(self):
        for form in many_forms(156, 20) + CRITICAL + [form.adjoint for form in CRITICAL]:
            paper = price_paper(form)
            self.assertIs(type(paper), tuple)
            table, bottom, rows, weights, scale = paper
            self.assertIs(is_price_paper(form, paper), True)
            self.assertTrue(is_price_table(form.size, table, bottom) and is_writing(form, (rows, weights, scale)))
            self.assertEqual(price_of(form, table, bottom), sum_of_writing(form, (rows, weights, scale)))
            self.assertEqual(price_of(form, table, bottom), least_price(form))
            self.assertLess(max(abs(n) for row in table + rows for n in row), 10 ** 400)

    def test_far_papers(self):
        chance = chance_of(157)
        for size in (2, 3, 4):
            form = Form(some_table(chance, size, 10 ** 29))
            self.assertIs(is_price_paper(form, price_paper(form)), True)
            self.assertLess(max(abs(n) for row in price_paper(form)[0] for n in row), 10 ** 400)

    def test_papers_of_others(self):
        # Half of the form of each copy in whose cone the table lies, and more than that.
        for copy in copies_beside(CUBE, Copy.first(3)) + (Copy.first(3),):
            self.assertIs(is_price_paper(CUBE, (copy.form.table, 2) + writing_of(CUBE)), True)
            self.assertIs(is_price_paper(CUBE, (multiple(copy.form.table, 10 ** 90), 2 * 10 ** 90) + writing_of(CUBE)), True)
        self.assertIs(is_price_paper(CUBE, (CUBE.table, 1) + writing_of(CUBE)), True)
        self.assertIs(is_price_paper(PLANE, (PLANE.table, 2) + UNITS), False)
        self.assertIs(is_price_paper(CUBE, (CUBE.table, 1) + UNITS), False)

    def test_judging_papers(self):
        table, bottom = ((2, -1), (-1, 2)), 2
        paper = (table, bottom) + UNITS
        self.assertIs(is_price_paper(PLANE, paper), True)
        for wrong in (
                list(paper), paper[:4], paper + (1,), (table, 1) + UNITS, (table, 3) + UNITS, (table, True) + UNITS,
                (table, None) + UNITS, (multiple(table, -1), -2) + UNITS, (multiple(table, 0), 1) + UNITS, (table, 0) + UNITS,
                (((2, -1), (0, 2)), 2) + UNITS, (PLANE, 2) + UNITS, (list(table), 2) + UNITS, (table, 2, None, None, None),
                (((2, -1), (-1, 1)), 1) + UNITS, (unit(2), 1) + UNITS, (unit(3), 1) + UNITS, ((UNITS, table, bottom)),
                (table, bottom, UNITS), (table, bottom, UNITS[0], UNITS[1], True), (((2, -1), (-1, True)), 1) + UNITS):
            self.assertIs(is_price_paper(PLANE, wrong), False, wrong)
        # The value is the bottom at all rows of the writing, but less at other rows.
        for table in (((1, 5, 0), (5, 1, 0), (0, 0, 1)), ((2, 2, 0), (2, 2, 0), (0, 0, 2)), ((9, 6, 0), (6, 9, 0), (0, 0, 9))):
            self.assertIs(is_price_paper(CUBE, (table, table[0][0]) + writing_of(CUBE)), False)
        for form in FORMS:
            for wrong in WRONG:
                self.assertIs(is_price_paper(form, wrong), False)
                self.assertIs(is_price_paper(form, (wrong, 2) + writing_of(form)), False)
                self.assertIs(is_price_paper(form, (form.table, wrong) + writing_of(form)), False)
                for place in range(5):
                    paper = list(price_paper(form))
                    paper[place] = wrong
                    self.assertIs(is_price_paper(form, tuple(paper)), False)


def shares_a_cone(one, other):
    """Whether both tables lie in the cone of one copy; then their sum does, too."""
    return any(is_in_cone(copy, one.table) and is_in_cone(copy, other.table) for copy in cones_about(one + other))


def cones_about(form):
    """All copies in whose cones the table lies: each one is reached over walls on which it lies."""
    found = [address(form)[0]]
    for copy in found:
        found.extend(other for other in copies_beside(form, copy) if other not in found)
    return found


class Errors(unittest.TestCase):
    def test_wrong_forms(self):
        for wrong in WRONG + (Copy.first(2),):
            if isinstance(wrong, Form):
                continue
            for call in (least_price, price_paper):
                self.assertIs(type(outcome(call, wrong)), InvalidForm)
            for call in (is_writing, is_price_paper, sum_of_writing):
                self.assertIs(type(outcome(call, wrong, None)), InvalidForm)
            self.assertIs(type(outcome(price_of, wrong, None, None)), InvalidForm)
            self.assertIs(type(outcome(price_excess, wrong, None, None, None)), InvalidForm)

    def test_copies_and_forms(self):
        for call in (price_at, is_cheapest):
            for wrong in WRONG + ("A2", PLANE.table):
                self.assertIs(type(outcome(call, wrong, PLANE)), InvalidCopy)
                self.assertIs(type(outcome(call, wrong, None)), InvalidCopy)
                if not isinstance(wrong, Form):
                    self.assertIs(type(outcome(call, Copy.first(2), wrong)), InvalidForm)
            for copy, form in ((Copy.first(2), CUBE), (Copy.first(3), PLANE), (told("D4"), CUBE), (Copy.first(3), GRID)):
                self.assertIs(type(outcome(call, copy, form)), InvalidOperation)
            self.assertIs(type(outcome(call, PLANE, Copy.first(2))), InvalidCopy)

    def test_nothing_changes(self):
        for form in FORMS:
            before = str(form)
            self.assertEqual(price_paper(form), price_paper(form))
            self.assertEqual(least_price(form), least_price(form))
            self.assertEqual(str(form), before)


class Untrue(unittest.TestCase):
    def test_12_7_price_tables(self):
        # The table of the cube with the bottom 1 gives the least price, and its double is no form of a copy.
        self.assertEqual(price_of(CUBE, CUBE.table, 1), least_price(CUBE))
        self.assertEqual(least_value(CUBE * 2), 2)
        self.assertFalse(any(are_alike(CUBE * 2, told_form(name)) for name in ("A3",)))

    def test_12_7_writings(self):
        frames = Form(((2, 0, -1, -1), (0, 2, -1, -1), (-1, -1, 2, 1), (-1, -1, 1, 2)))
        writing = (((0, 0, 0, 1), (0, 0, 1, 0), (1, -1, 0, 0), (1, 1, -1, -1)), (1, 1, 1, 1), 1)
        self.assertEqual(sum_of_writing(frames, writing), least_price(frames))
        self.assertNotEqual(writing[0], face_of(frames)[0])

    def test_12_7_determinants(self):
        one, other = Form.diagonal(1, 10), Form.diagonal(4, 4)
        self.assertGreater(other.determinant, one.determinant)
        self.assertGreater(Fraction(*least_price(one)), Fraction(*least_price(other)))

    def test_told_values(self):
        self.assertEqual([least_price(form) for form in (FACED, FOURTH, led_form())], [(4, 1), (5, 1), (4, 1)])
        self.assertEqual(crossed(Copy.first(2), PLANE.table), (((0, -1), (-1, 0)),))


def led_form():
    return Form(led(FACED.table, ((1, 1, 0), (0, 1, 0), (0, 0, 1))))
