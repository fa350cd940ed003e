"""Short rows [0.8], [0.12], [4.1] to [4.4]."""

import unittest
from fractions import Fraction
from itertools import islice, product

from ballgrids.alike.alikes import are_alike
from ballgrids.errors import InvalidForm, InvalidNumber, InvalidOperation, TooMany
from ballgrids.form.forms import Form
from ballgrids.form.matrices import led_row, led_table, normal_row
from ballgrids.short import rows as short_rows
from ballgrids.short.rows import (
    count_values, density, each_row, is_denser, is_least_row, least_rows, least_value, rows_of_value, rows_up_to)
from ballgrids.short.search import Search
from tests.helper import (
    BODY, CUBE, FACED, FORMS, FOURTH, GRID, LONG, MOST, PLANE, TWENTY_FOUR, WRONG, calls_of, chance_of, inverse, lead,
    many_forms, normal, outcome, rows_below, some_matrix)

ONE_FORM = (least_value, least_rows, density)


def first_of(generator):
    return next(generator)


def small_forms(seed, count):
    """Forms all of whose rows up to a bound are found in a small box."""
    return [form for form in many_forms(seed, count, 2) if max(max(row) for row in form.table) < 20]


class ShortRows(unittest.TestCase):
    def test_constants(self):
        self.assertEqual((short_rows.MOST_ROWS, short_rows.MOST_VALUE), (2000, 200))

    def test_0_12_least_rows(self):
        for form in small_forms(41, 60):
            known = rows_below(form.table, min(form.table[i][i] for i in range(form.size)))
            least = known[0][0]
            self.assertEqual(least_value(form), least)
            self.assertEqual(least_rows(form), tuple(row for number, row in known if number == least))
            for number, row in known:
                self.assertIs(is_least_row(form, row), number == least)
                self.assertIs(is_least_row(form, tuple(-n for n in row)), False)
            self.assertIs(is_least_row(form, (0,) * form.size), False)

    def test_told_forms(self):
        self.assertEqual([len(least_rows(form)) for form in FORMS], [3, 3, 4, 6, 12, 10, 4])
        self.assertEqual([least_value(form) for form in FORMS], [2, 1, 3, 2, 2, 2, 1])
        self.assertEqual([density(form) for form in (PLANE, FACED, FOURTH, TWENTY_FOUR, GRID)],
                         [(4, 3), (2, 1), (16, 5), (4, 1), (1, 1)])

    def test_4_1_rows_up_to(self):
        for form in small_forms(42, 60):
            for bound in (0, 1, 2, 5, 9):
                known = rows_below(form.table, bound)
                self.assertEqual(rows_up_to(form, bound), tuple(row for _, row in known))
                for number in range(bound + 1):
                    expected = tuple(row for told, row in known if told == number)
                    self.assertEqual(rows_of_value(form, number), expected)
                counts = count_values(form, bound)
                self.assertEqual(len(counts), bound + 1)
                self.assertEqual(counts[0], 1)
                for number in range(1, bound + 1):
                    self.assertEqual(counts[number], 2 * len([1 for told, _ in known if told == number]))

    def test_4_1_rows_far_away(self):
        chance = chance_of(43)
        for base in FORMS + (Form.diagonal(1, 2, 3), Form.diagonal(2, 3), Form.diagonal(1, 1, 2, 3)):
            for most in (1, 10 ** 5, 10 ** 8):
                matrix = some_matrix(chance, base.size, 5, most)
                form, back = base.led(matrix), inverse(matrix)
                known = [(number, normal(lead(back, row))) for number, row in rows_below(base.table, 6)]
                self.assertEqual(rows_up_to(form, 6), tuple(row for _, row in sorted(known)))
                self.assertEqual(count_values(form, 6), count_values(base, 6))

    def test_no_rows(self):
        self.assertEqual(rows_up_to(PLANE, 0), ())
        self.assertEqual(rows_up_to(PLANE, 1), ())
        self.assertEqual(rows_of_value(PLANE, 0), ())
        self.assertEqual(rows_of_value(PLANE, 3), ())
        self.assertEqual(count_values(PLANE, 0), (1,))
        self.assertEqual(count_values(Form.diagonal(MOST, MOST), 200), (1,) + (0,) * 200)

    def test_4_2_how_many(self):
        most = {2: 3, 3: 6, 4: 12}
        for form in many_forms(44, 60):
            self.assertLessEqual(len(least_rows(form)), most[form.size])
            self.assertGreaterEqual(len(least_rows(form)), 1)

    def test_4_3_led_forms(self):
        chance = chance_of(45)
        for form in many_forms(46, 20):
            matrix = some_matrix(chance, form.size, 5, 10 ** chance.choice((0, 3, 7)))
            other = form.led(matrix)
            self.assertEqual(least_value(other), least_value(form))
            self.assertEqual(density(other), density(form))
            self.assertEqual(
                sorted(normal_row(led_row(matrix, row)) for row in least_rows(other)), list(least_rows(form)))
            self.assertEqual(density(form * 12), density(form))
            self.assertEqual(least_rows(form * MOST), least_rows(form))
            self.assertEqual(least_value(form * MOST), least_value(form) * MOST)

    def test_long_forms(self):
        self.assertEqual(least_rows(Form.diagonal(1, 1, 1, MOST)), ((0, 0, 1, 0), (0, 1, 0, 0), (1, 0, 0, 0)))
        self.assertEqual(rows_up_to(Form.diagonal(MOST, 10 ** 59), MOST), ((0, 1), (0, 2), (0, 3), (1, 0)))
        self.assertEqual(least_rows(Form(((1, 10 ** 29), (10 ** 29, 10 ** 58 + 1)))), ((1, 0), (10 ** 29, -1)))
        self.assertEqual(rows_of_value(TWENTY_FOUR * 10 ** 58, 2 * 10 ** 58), least_rows(TWENTY_FOUR))
        far = PLANE.led(((1, MOST), (0, 1))).led(((1, 0), (MOST, 1)))
        self.assertEqual(least_value(far), 2)
        self.assertEqual(len(least_rows(far)), 3)
        self.assertTrue(any(is_least_row(far, row) for row in ((1, -MOST),)))

    def test_is_least_row(self):
        self.assertIs(is_least_row(CUBE, (0, 0, 1)), True)
        for wrong in ((0, 0, True), (True, 0, 0), [0, 0, 1], (0, 1), (0, 0, 0, 1), (0, 0, None), ((0, 0, 1),)):
            self.assertIs(is_least_row(CUBE, wrong), False)
        for form in FORMS:
            for wrong in WRONG:
                self.assertIs(is_least_row(form, wrong), False)


class Bounds(unittest.TestCase):
    def test_2000_rows(self):
        line = Form.diagonal(1, MOST)
        self.assertEqual(rows_up_to(line, 2000 ** 2), tuple((number, 0) for number in range(1, 2001)))
        self.assertEqual(len(rows_up_to(line, 2001 ** 2 - 1)), 2000)
        self.assertEqual(rows_of_value(line, 2000 ** 2), ((2000, 0),))
        self.assertEqual(rows_of_value(line, 2001 ** 2 - 1), ())
        for call in (rows_up_to, rows_of_value):
            for bound in (2001 ** 2, 10 ** 30, MOST):
                error = outcome(call, line, bound)
                self.assertIs(type(error), TooMany)
                self.assertEqual(error.most, 2000)

    def test_2000_rows_in_more_letters(self):
        for form in (PLANE, CUBE, BODY, FACED, TWENTY_FOUR, GRID, GRID * 10 ** 30, Form.diagonal(1, 1, MOST, MOST)):
            step = least_value(form)
            bound, found = 0, ()
            while isinstance(found, tuple):
                bound, known = bound + 50 * step, found
                found = outcome(rows_up_to, form, bound)
            self.assertIs(type(found), TooMany)
            self.assertEqual(found.most, 2000)
            self.assertLessEqual(len(known), 2000)
            self.assertIs(type(outcome(rows_up_to, form, MOST)), TooMany)

    def test_2001_rows_of_small_values(self):
        # diagonal 1, 1, 1 has more than 2000 normal rows with values up to 200.
        total = 0
        for bound in range(201):
            known = outcome(count_values, CUBE, bound)
            if isinstance(known, TooMany):
                self.assertGreater(len(rows_below(CUBE.table, bound)), 2000)
                break
            total = sum(known) // 2
        self.assertLessEqual(total, 2000)
        self.assertEqual(len(rows_below(CUBE.table, bound - 1)), total)
        self.assertEqual(outcome(count_values, CUBE, 200).most, 2000)

    def test_bounds_of_arguments(self):
        self.assertEqual(len(count_values(PLANE, 200)), 201)
        for number in (-1, 201, MOST, -MOST):
            error = outcome(count_values, PLANE, number)
            self.assertIs(type(error), InvalidNumber)
            self.assertEqual(error.given, number)
        for call in (rows_up_to, rows_of_value):
            self.assertEqual(call(PLANE, 0), ())
            self.assertEqual(call(Form.diagonal(MOST, MOST), MOST), ((0, 1), (1, 0)))
            for number in (-1, -MOST):
                error = outcome(call, PLANE, number)
                self.assertIs(type(error), InvalidNumber)
                self.assertEqual(error.given, number)

    def test_wrong_arguments(self):
        two = (rows_up_to, rows_of_value, count_values)
        for wrong in WRONG + (PLANE.table, (PLANE,)):
            if not isinstance(wrong, Form):
                for call in ONE_FORM + (lambda form: is_least_row(form, None),):
                    self.assertIs(type(outcome(call, wrong)), InvalidForm)
                for call in two:
                    for number in (1, None, -1):
                        self.assertIs(type(outcome(call, wrong, number)), InvalidForm)
                self.assertIs(type(outcome(is_denser, wrong, PLANE)), InvalidForm)
                self.assertIs(type(outcome(is_denser, PLANE, wrong)), InvalidForm)
                self.assertIs(type(outcome(is_denser, wrong, wrong)), InvalidForm)
            for call in two:
                error = outcome(call, CUBE, wrong)
                self.assertIs(type(error), InvalidNumber)
                self.assertIs(error.given, wrong)
        self.assertIs(type(outcome(is_denser, PLANE, CUBE)), InvalidOperation)
        self.assertIs(type(outcome(is_denser, TWENTY_FOUR, CUBE)), InvalidOperation)


class EachRow(unittest.TestCase):
    def test_order(self):
        for form in small_forms(47, 30):
            bound = 12
            known = rows_up_to(form, bound)
            self.assertEqual(tuple(islice(each_row(form), len(known))), known)

    def test_no_end(self):
        for form in (PLANE, TWENTY_FOUR, Form.diagonal(1, 1, MOST, MOST) * 7, BODY.led(((1, 10 ** 20, 5), (0, 1, 10 ** 9), (0, 0, 1)))):
            found = list(islice(each_row(form), 2500))
            self.assertEqual(len(set(found)), 2500)
            order = [(form.value(row), row) for row in found]
            self.assertEqual(order, sorted(order))
            self.assertTrue(all(normal(row) == row for row in found))
            self.assertEqual(tuple(found[:100]), rows_up_to(form, order[99][0])[:100])

    def test_far_lines(self):
        found = list(islice(each_row(Form.diagonal(MOST, 10 ** 59)), 5))
        self.assertEqual(found, [(0, 1), (0, 2), (0, 3), (1, 0), (1, -1)])

    def test_two_generators_go_on_alone(self):
        one, other = each_row(CUBE), each_row(CUBE)
        first = [next(one) for _ in range(10)]
        self.assertEqual([next(other) for _ in range(10)], first)

    def test_errors_come_with_the_first_element(self):
        for wrong in WRONG:
            if not isinstance(wrong, Form):
                made = each_row(wrong)
                self.assertIs(type(outcome(first_of, made)), InvalidForm)


class Densities(unittest.TestCase):
    def test_0_12_density(self):
        for form in many_forms(48, 40):
            told = Fraction(least_value(form) ** form.size, form.determinant)
            self.assertEqual(density(form), (told.numerator, told.denominator))

    def test_is_denser(self):
        forms = many_forms(49, 20)
        for one, other in product(forms, forms):
            if one.size == other.size:
                expected = Fraction(*density(one)) > Fraction(*density(other))
                self.assertIs(is_denser(one, other), expected)
        self.assertIs(is_denser(FACED * MOST, FACED), False)

    def test_nothing_changes(self):
        for form in FORMS:
            before = str(form)
            for call in ONE_FORM:
                self.assertEqual(call(form), call(form))
            for call in (rows_up_to, rows_of_value, count_values):
                self.assertEqual(call(form, 3), call(form, 3))
            self.assertEqual(str(form), before)


class Untrue(unittest.TestCase):
    def test_4_4_rows_of_signs(self):
        form = Form(led_table(CUBE.table, ((1, 5, 0), (0, 1, 5), (0, 0, 1))))
        signs = [row for row in product((-1, 0, 1), repeat=3) if any(row)]
        form = form.led(((1, 0, 0), (7, 1, 0), (0, 7, 1)))
        self.assertGreater(min(form.value(row) for row in signs), least_value(form))

    def test_4_4_equal_least_rows(self):
        one, other = Form.diagonal(1, 2), Form.diagonal(1, 3)
        self.assertEqual(least_rows(one), least_rows(other))
        self.assertFalse(are_alike(one, other))


class Lengths(unittest.TestCase):
    def test_sixty_digits(self):
        form = Form(((MOST, 0), (0, MOST)))
        self.assertEqual(rows_of_value(form, MOST), ((0, 1), (1, 0)))
        for number in (LONG, 10 ** 99):
            for call in (rows_up_to, rows_of_value, count_values):
                error = outcome(call, form, number)
                self.assertIs(type(error), InvalidNumber)
                self.assertEqual(error.given, number)
        # A row of more than sixty digits is no row that can be passed [0.1].
        far = PLANE.led(((1, MOST), (0, 1))).led(((1, MOST), (0, 1)))
        self.assertIn((2 * MOST, -1), least_rows(far))
        self.assertIs(is_least_row(far, (2 * MOST, -1)), False)


class Work(unittest.TestCase):
    """The functions are called very often: what they do must not grow with each row and each number of the table."""

    def test_few_calls(self):
        flat = Form.diagonal(1, 1)
        for call, arguments, most in (
                (rows_up_to, (flat, 1270), 3000), (rows_up_to, (flat, 1300), 1000), (rows_of_value, (flat, 1270), 1000),
                (count_values, (GRID, 40), 5000), (count_values, (GRID, 20), 5000), (least_rows, (TWENTY_FOUR,), 2000)):
            self.assertLess(calls_of(call, *arguments), most, (call, arguments))

    def test_the_search_ends_early(self):
        for form, longest in ((Form.diagonal(1, 1), 2000), (CUBE, 40), (GRID, 20)):
            search = Search(form.table, 10 ** 6, 2000)
            self.assertTrue(search.is_over())
            self.assertLessEqual(search.many, 2000 + max(line.high - line.low + 1 for line in search.lines))
            self.assertIs(type(outcome(rows_up_to, form, 10 ** 59)), TooMany)
        self.assertEqual(len(rows_up_to(Form.diagonal(1, 10 ** 9), 1999 ** 2)), 1999)
        self.assertFalse(Search(PLANE.table, 100).is_over())
        self.assertEqual(Search(PLANE.table, 2, 3).many, 3)
        self.assertFalse(Search(PLANE.table, 2, 3).is_over())
        self.assertTrue(Search(PLANE.table, 2, 2).is_over())
