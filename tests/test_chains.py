"""Rises and chains [0.17], [8.1] to [8.6]."""

import unittest
from fractions import Fraction

from ballgrids.alike.alikes import are_alike
from ballgrids.chain.chains import chain, each_rise, greatest_t, is_chain, is_rise, is_rising, rise_rows, risen
from ballgrids.cone.told import NAMES, Copy, told_form
from ballgrids.errors import InvalidForm, InvalidOperation, InvalidTable
from ballgrids.form.forms import Form
from ballgrids.short.rows import density, is_denser, least_rows, least_value
from ballgrids.span.spans import blanks, is_blank, is_perfect, rank_of_squares
from tests.helper import (
    BODY, CUBE, FACED, FORMS, FOURTH, GRID, LONG, MOST, PLANE, TWENTY_FOUR, WRONG, adjoint, chance_of, far_matrix, led,
    many_forms, multiple, outcome, product_sum, ratio, rows_below, some_matrix, some_table, sum_table, unit, value)

UP = ((0, 1, 1), (1, 0, 1), (1, 1, 0))
UPPERS = {2: 3, 3: 6, 4: 10}
# Forms with successive least values of very unlike sizes.
STEEP = (
    Form.diagonal(1, MOST), Form.diagonal(1, 10 ** 30, MOST), Form.diagonal(1, 1, 1, MOST), Form.diagonal(1, MOST, MOST, MOST),
    Form.diagonal(1, 10 ** 20, 10 ** 40, MOST),
    Form(((10 ** 15, 4 * 10 ** 14 + 1, 10 ** 14 + 3, 7), (4 * 10 ** 14 + 1, 10 ** 30, 3 * 10 ** 14, 10 ** 29 + 9),
          (10 ** 14 + 3, 3 * 10 ** 14, 10 ** 45, 4 * 10 ** 44 + 1), (7, 10 ** 29 + 9, 4 * 10 ** 44 + 1, 10 ** 59))))


def rising_tables(form, chance, count):
    """Some tables that rise."""
    base = blanks(form)
    found = []
    for number in range(count if base else 0):
        table = sum_table(base, [chance.randint(-3, 3) for _ in base]) if number else base[0]
        if any(map(any, table)):
            made = product_sum(table, form.adjoint.table)
            found.append(table if made <= 0 else multiple(table, -1))
    return found


def table_at(form, table, told):
    """The table of the form, and the other one so many times, multiplied by the bottom of the ratio."""
    return sum_table([form.table, table], [told.denominator, told.numerator])


class Rising(unittest.TestCase):
    def test_8_1_rising(self):
        chance = chance_of(41)
        for form in many_forms(42, 20):
            back = adjoint(form.table)
            for table in blanks(form):
                made = product_sum(table, back)
                self.assertIs(is_rising(form, table), made <= 0)
                self.assertIs(is_rising(form, multiple(table, -1)), made >= 0)
                self.assertIs(is_rising(form, multiple(table, -10 ** 300)), made >= 0)
                self.assertIs(is_rising(form, sum_table([table, form.table])), False)
                self.assertIs(is_rising(form, list(table)), False)
            self.assertIs(is_rising(form, multiple(form.table, 0)), False)
            self.assertIs(is_rising(form, multiple(form.table, -1)), False)
            for table in rising_tables(form, chance, 3):
                self.assertIs(is_rising(form, table), True)

    def test_8_1_both_rise(self):
        self.assertTrue(is_rising(CUBE, UP) and is_rising(CUBE, multiple(UP, -1)))
        long_form = Form.diagonal(1, 2)
        self.assertTrue(is_rising(long_form, ((0, 0), (0, -1))))
        self.assertFalse(is_rising(long_form, ((0, 0), (0, 1))))

    def test_8_2_greatest_t(self):
        chance = chance_of(43)
        for form in many_forms(44, 14):
            for table in rising_tables(form, chance, 3):
                told = Fraction(*greatest_t(form, table))
                self.assertEqual(greatest_t(form, table), ratio(told))
                self.assertGreater(told, 0)
                least = least_value(form)
                self.assertEqual(least_value(Form(table_at(form, table, told))), least * told.denominator)
                for part in (Fraction(1, 7), Fraction(99, 100)):
                    less = told * part
                    self.assertEqual(least_value(Form(table_at(form, table, less))), least * less.denominator)
                more = told * Fraction(1001, 1000)
                raised = outcome(Form, table_at(form, table, more))
                if isinstance(raised, Form):
                    self.assertLess(least_value(raised), least * more.denominator)
                self.check_rows(form, table, told)

    def check_rows(self, form, table, told):
        """The rows of a risen form that are new have just this ratio, and no row has a lesser one."""
        new = rise_rows(form, table)
        least = least_value(form)
        for row in new:
            self.assertLess(value(table, row), 0)
            self.assertEqual(Fraction(value(form.table, row) - least, -value(table, row)), told)
        if max(max(row) for row in form.table) < (30 if form.size < 4 else 5):
            for number, row in rows_below(form.table, 3 * form.table[0][0]):
                if value(table, row) < 0:
                    self.assertGreaterEqual(Fraction(number - least, -value(table, row)), told)

    def test_8_2_multiples_of_tables(self):
        for number in (2, 10 ** 40, 10 ** 300):
            self.assertEqual(greatest_t(CUBE, multiple(UP, number)), (1, 2 * number))
            self.assertEqual(risen(CUBE, multiple(UP, number)), FACED)
        self.assertEqual(greatest_t(CUBE * 12, UP), (6, 1))
        self.assertEqual(greatest_t(CUBE * MOST, multiple(UP, MOST)), (1, 2))

    def test_8_2_risen(self):
        chance = chance_of(45)
        for form in many_forms(46, 14):
            for table in rising_tables(form, chance, 3):
                told = Fraction(*greatest_t(form, table))
                made = risen(form, table)
                whole = table_at(form, table, told)
                self.assertEqual(made.content, 1)
                self.assertEqual(made.table, Form(whole).cleared().table)

    def test_8_3_denser_with_more_rows(self):
        chance = chance_of(47)
        for form in many_forms(48, 14):
            for table in rising_tables(form, chance, 3):
                made, new = risen(form, table), rise_rows(form, table)
                self.assertTrue(is_denser(made, form))
                self.assertEqual(tuple(sorted(least_rows(form) + new)), least_rows(made))
                self.assertGreater(len(new), 0)
                self.assertIs(type(new), tuple)
                self.assertGreater(rank_of_squares(made), rank_of_squares(form))

    def test_steep_forms(self):
        chance = chance_of(49)
        for form in STEEP:
            for table in rising_tables(form, chance, 4):
                self.check_rows(form, table, Fraction(*greatest_t(form, table)))
                self.assertTrue(is_rise(form, risen(form, table)))

    def test_long_tables(self):
        chance = chance_of(50)
        for form in (CUBE, GRID, BODY, Form.diagonal(1, 1)):
            base = blanks(form)
            for _ in range(2):
                table = sum_table(base, [chance.randint(-10 ** 150, 10 ** 150) for _ in base])
                if product_sum(table, form.adjoint.table) > 0:
                    table = multiple(table, -1)
                self.check_rows(form, table, Fraction(*greatest_t(form, table)))


class Rises(unittest.TestCase):
    def test_8_5_rises(self):
        chance = chance_of(51)
        for form in many_forms(52, 12):
            for table in rising_tables(form, chance, 2):
                made = risen(form, table)
                self.assertIs(is_rise(form, made), True)
                self.assertIs(is_rise(form * 3, made), True)
                self.assertIs(is_rise(form, made * 2), False)
                self.assertIs(is_rise(made, form), False)
                self.assertIs(is_rise(form, made.table), False)
            self.assertIs(is_rise(form, form), False)
            self.assertIs(is_rise(form, form.cleared()), False)

    def test_8_5_each_condition(self):
        self.assertTrue(is_rise(CUBE, FACED))
        # A common divisor; rows that are none any more; no new row; too much together with the adjoint.
        self.assertFalse(is_rise(CUBE, FACED * 2))
        self.assertFalse(is_rise(CUBE, FACED.led(((1, 1, 0), (0, 1, 0), (0, 0, 1)))))
        self.assertTrue(is_rise(CUBE, BODY))
        self.assertFalse(is_rise(BODY, CUBE))
        self.assertFalse(is_rise(Form.diagonal(1, 2), Form.diagonal(1, 3)))
        self.assertTrue(is_rise(Form.diagonal(1, 2), Form.diagonal(1, 1)))
        # More rows, but not those of the first one.
        other = Form(((4, 2), (2, 3)))
        self.assertEqual((least_rows(Form.diagonal(1, 2)), least_rows(other)), (((1, 0),), ((0, 1), (1, -1))))
        self.assertLessEqual(product_sum(other.table, Form.diagonal(1, 2).adjoint.table), 3 * 2 * 2)
        self.assertFalse(is_rise(Form.diagonal(1, 2), other))
        # Some of the rows of the first one, but not all.
        part = Form(((2, -1, -1), (-1, 3, 0), (-1, 0, 2)))
        self.assertEqual(least_rows(part), ((0, 0, 1), (1, 0, 0), (1, 0, 1)))
        self.assertLessEqual(product_sum(part.table, Form.diagonal(1, 1, 2).adjoint.table), 2 * 3 * 2)
        self.assertFalse(is_rise(Form.diagonal(1, 1, 2), part))
        # The rows of the second one and one more, but it does not lie on the side that rises.
        low = critical_like()
        self.assertEqual([row for row in least_rows(low[0]) if row not in least_rows(low[1])], [])
        self.assertGreater(len(least_rows(low[1])), len(least_rows(low[0])))
        made = least_value(low[0]) * product_sum(low[1].table, low[0].adjoint.table)
        self.assertGreater(made, least_value(low[1]) * low[0].size * low[0].determinant)
        self.assertFalse(is_rise(*low))

    def test_other_values(self):
        for form in FORMS:
            for wrong in WRONG + (form.table, str(form), Copy("A2", unit(2))):
                if not isinstance(wrong, Form):
                    self.assertIs(is_rise(form, wrong), False)
        self.assertIs(is_rise(CUBE, PLANE), False)
        self.assertIs(is_rise(PLANE, FACED), False)

    def test_each_rise(self):
        for form in many_forms(53, 12) + [CUBE, BODY, GRID]:
            tables = blanks(form)
            found = list(each_rise(form))
            self.assertEqual(len(found), len(tables))
            for table, made in zip(tables, found):
                up = table if is_rising(form, table) else multiple(table, -1)
                self.assertEqual(made, risen(form, up))
                self.assertIs(type(made), Form)
        for name in NAMES:
            self.assertEqual(list(each_rise(told_form(name) * 3)), [])

    def test_a_generator_raises_late(self):
        made = each_rise(None)
        self.assertIs(type(outcome(next, made)), InvalidForm)


def critical_like():
    """A form, and one with all of its least rows and one more that is no rise of it, as it is less dense."""
    chance = chance_of(54)
    while True:
        form = Form(some_table(chance, 3, 4))
        for table in blanks(form):
            down = table if product_sum(table, form.adjoint.table) > 0 else multiple(table, -1)
            for number in range(1, 40):
                other = outcome(Form, sum_table([form.table, down], [2, number]))
                if isinstance(other, Form) and set(least_rows(form)) < set(least_rows(other)):
                    other = other.cleared()
                    if not is_denser(other, form):
                        return form, other


class Chains(unittest.TestCase):
    def check_chain(self, form):
        found = chain(form)
        self.assertIs(type(found), tuple)
        self.assertIs(is_chain(form, found), True)
        self.assertEqual(found[0], form.cleared())
        self.assertTrue(is_perfect(found[-1]))
        self.assertFalse(any(is_perfect(told) for told in found[:-1]))
        for ahead, behind in zip(found, found[1:]):
            self.assertTrue(is_rise(ahead, behind))
            self.assertTrue(is_denser(behind, ahead))
        self.assertLessEqual(len(found), UPPERS[form.size] - rank_of_squares(form) + 1)
        self.assertLessEqual(max(abs(n) for told in found for row in told.table for n in row), 10 ** 400)
        return found

    def test_8_4_chains(self):
        for form in many_forms(55, 40):
            self.check_chain(form)
            self.check_chain(form * 6)

    def test_steep_and_far_forms(self):
        chance = chance_of(56)
        for form in STEEP:
            self.check_chain(form)
        for size in (2, 3, 4):
            self.check_chain(Form(some_table(chance, size, 10 ** 29)))
            self.check_chain(Form(some_table(chance, size, 10 ** 3)).led(far_matrix(chance, size, 26)))
            self.check_chain(Form.diagonal(*[1] * size).led(far_matrix(chance, size, 29)))

    def test_chains_of_perfect_forms(self):
        for name in NAMES:
            form = told_form(name)
            self.assertEqual(chain(form * 4), (form,))
            self.assertIs(is_chain(form * 4, (form,)), True)
            self.assertIs(is_chain(form * 4, (form * 4,)), False)
            self.assertIs(is_chain(form, (form, form)), False)

    def test_0_17_the_number_of_steps(self):
        self.assertEqual(len(chain(Form.diagonal(1, 2))), 3)
        for form in many_forms(57, 30):
            self.assertLessEqual(len(chain(form)) - 1, {2: 2, 3: 5, 4: 9}[form.size])

    def test_judging(self):
        long_chain = chain(Form(((7, 4, 6), (4, 9, 2), (6, 2, 11))))
        form = long_chain[0]
        self.assertGreater(len(long_chain), 3)
        self.assertTrue(is_chain(form, long_chain))
        self.assertTrue(is_chain(form * 5, long_chain))
        for wrong in (
                (), long_chain[:-1], long_chain[1:], long_chain[::-1], list(long_chain), long_chain + long_chain[-1:],
                long_chain[:1] + long_chain, (form * 2,) + long_chain[1:],
                long_chain + (None,), long_chain + (None, None), (None,) + long_chain, long_chain[:2] + (PLANE,),
                long_chain[:1] + (PLANE, PLANE), long_chain[:1] + ("a", "b"), tuple(told.table for told in long_chain),
                long_chain[:-1] + (long_chain[-1] * 2,), long_chain[0], (long_chain,)):
            self.assertIs(is_chain(form, wrong), False)
        # Not each shorter way is a chain, but one by another table is.
        self.assertTrue(is_chain(GRID, (GRID, TWENTY_FOUR)))
        self.assertFalse(is_chain(CUBE, (GRID, TWENTY_FOUR)))
        self.assertFalse(is_chain(GRID, (CUBE, FACED)))
        for form in FORMS:
            for wrong in WRONG:
                if not isinstance(wrong, Form):
                    self.assertIs(is_chain(form, wrong), form == PLANE and wrong == (PLANE,))
                    self.assertIs(is_chain(form, (form.cleared(), wrong)), False)

    def test_chains_with_long_integers(self):
        chance = chance_of(58)
        matrix = far_matrix(chance, 3, 60)
        long_chain = chain(Form(((7, 4, 6), (4, 9, 2), (6, 2, 11))))
        far = tuple(form.led(matrix).led(matrix) for form in long_chain)
        self.assertGreater(max(far[0].table[0]), 10 ** 150)
        self.assertTrue(is_chain(far[0], far))
        self.assertFalse(is_chain(far[0], far[:-1]))
        self.assertTrue(is_chain(far[0], chain(far[0])))

    def test_led_forms(self):
        chance = chance_of(59)
        for form in many_forms(60, 8):
            matrix = some_matrix(chance, form.size, 4, 2)
            for table in rising_tables(form, chance, 2):
                other = led(table, matrix)
                self.assertTrue(is_rising(form.led(matrix), other))
                self.assertEqual(greatest_t(form.led(matrix), other), greatest_t(form, table))
                self.assertEqual(risen(form.led(matrix), other), risen(form, table).led(matrix))
            found = tuple(told.led(matrix) for told in chain(form))
            self.assertTrue(is_chain(form.led(matrix), found))


class Errors(unittest.TestCase):
    CALLS = (greatest_t, risen, rise_rows)

    def test_wrong_forms(self):
        for wrong in WRONG + (Copy.first(3),):
            if isinstance(wrong, Form):
                continue
            for call in self.CALLS + (is_rising, is_rise, is_chain):
                for table in (UP, None):
                    self.assertIs(type(outcome(call, wrong, table)), InvalidForm)
            self.assertIs(type(outcome(chain, wrong)), InvalidForm)
            self.assertIs(type(outcome(lambda told: next(each_rise(told)), wrong)), InvalidForm)

    def test_wrong_tables(self):
        long_ones = (((LONG, 1), (1, LONG)), ((10 ** 99, 0), (0, 1)))
        for call in self.CALLS:
            for wrong in WRONG + (((0, 1), (2, 0)), ((0, 1, 0), (1, 0, 0)), ((0, True), (True, 0)), UP):
                kind = InvalidTable
                if wrong in long_ones:
                    kind = InvalidOperation
                self.assertIs(type(outcome(call, Form.diagonal(1, 1), wrong)), kind, wrong)
            for wrong in (unit(2), ((0, 1), (1, 0)), None):
                self.assertIs(type(outcome(call, CUBE, wrong)), InvalidTable)

    def test_tables_that_do_not_rise(self):
        for call in self.CALLS:
            for form, table in (
                    (CUBE, multiple(UP, 0)), (CUBE, unit(3)), (CUBE, multiple(unit(3), -1)), (FACED, UP),
                    (BODY, multiple(unit(3), 10 ** 90)), (Form.diagonal(1, 2), ((0, 0), (0, 1)))):
                self.assertIs(type(outcome(call, form, table)), InvalidOperation)

    def test_is_rising_accepts_every_value(self):
        for form in FORMS:
            for wrong in WRONG + (form, UP):
                if wrong != UP or form.size != 3:
                    self.assertIs(is_rising(form, wrong), False)

    def test_nothing_changes(self):
        for form in (CUBE, BODY, GRID):
            before = str(form)
            table = [told for told in blanks(form) if is_rising(form, told)][0]
            for call in self.CALLS:
                self.assertEqual(call(form, table), call(form, table))
            self.assertEqual(chain(form), chain(form))
            self.assertEqual(list(each_rise(form)), list(each_rise(form)))
            self.assertEqual(str(form), before)


class Untrue(unittest.TestCase):
    def test_8_6_ends_of_chains(self):
        first, second = (GRID, TWENTY_FOUR), (GRID, FOURTH)
        self.assertTrue(is_chain(GRID, first) and is_chain(GRID, second))
        self.assertFalse(are_alike(first[-1], second[-1]))

    def test_8_6_lengths_of_chains(self):
        self.assertTrue(is_chain(CUBE, (CUBE, FACED)))
        self.assertTrue(is_chain(CUBE, (CUBE,) + chain(BODY)))
        self.assertGreater(len((CUBE,) + chain(BODY)), 2)

    def test_8_6_one_more_row(self):
        self.assertEqual(len(rise_rows(CUBE, UP)), 3)

    def test_8_6_lowering(self):
        form = Form.diagonal(1, 1, 2)
        table = ((0, 3, 0), (3, 0, 0), (0, 0, 1))
        self.assertTrue(is_blank(form, table))
        self.assertFalse(is_rising(form, table))
        raised = Form(sum_table([form.table, table], [10, 1]))
        self.assertGreater(Fraction(*density(raised)), Fraction(*density(form)))
