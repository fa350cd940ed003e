"""Every example of DOC.md that speaks of the modules that exist."""

import unittest

from ballgrids.alike.alikes import (
    alike_parts, are_alike, are_turned_alike, count_keepers, first_unlike, keeper_order, keepers,
    matrices_between, multiple_between, row_kinds)
from ballgrids.base.numbers import common_divisor, compare, is_integer, is_ratio, lowest, minus, plus, times
from ballgrids.base.tables import determinant, echelon, kernel, product, rank, told_by
from ballgrids.errors import InvalidForm, InvalidNumber, InvalidOperation, TooMany
from ballgrids.form.forms import Form, barrier, is_barrier, is_positive
from ballgrids.form.matrices import (
    led_row, led_table, matrix_back, matrix_product, moved_table, normal_row, square, together, unit_matrix)
from ballgrids.short.bases import (
    is_basis, is_reduced, is_reducing, is_successive, least_form, reduced, successive_values)
from ballgrids.short.rows import (
    count_values, density, each_row, is_denser, is_least_row, least_rows, least_value, rows_of_value, rows_up_to)
from tests.helper import BODY, CUBE, FACED, PLANE, TWENTY_FOUR


class Examples(unittest.TestCase):
    def test_numbers(self):
        self.assertEqual(
            [is_integer(True), is_integer(10 ** 60), is_ratio((2, 4)), is_ratio((-1, 2)), is_ratio((1, -2)),
             common_divisor((4, -6, 0))],
            [False, False, False, True, False, 2])
        self.assertEqual(
            [lowest(6, -4), compare((1, 3), (1, 2)), plus((1, 2), (1, 3)), minus((1, 2), (1, 2)),
             times((2, 3), (3, 4))],
            [(-3, 2), -1, (5, 6), (0, 1), (1, 2)])
        with self.assertRaises(InvalidNumber) as caught:
            lowest(1, 0)
        self.assertEqual(caught.exception.given, 0)

    def test_tables(self):
        some = ((0, 2, 4), (1, 1, 1), (1, 2, 3))
        self.assertEqual(
            [rank(some), echelon(some), kernel(some), determinant(some), kernel(((1, 0), (1, 1)))],
            [2, ((1, 0, -1), (0, 1, 2)), ((1, -2, 1),), 0, ()])
        self.assertEqual(
            [product(((1, 2), (3, 4)), ((0, 1), (1, 0))), told_by(((2, 0, 0), (0, 3, 0)), (1, 1, 0)),
             told_by(((2, 0, 0),), (0, 0, 1))],
            [((2, 1), (4, 3)), (6, (3, 2)), None])
        with self.assertRaises(InvalidOperation):
            told_by(((1, 2), (2, 4)), (1, 2))

    def test_told_values(self):
        self.assertEqual([len(least_rows(CUBE)), density(CUBE)], [3, (1, 1)])
        self.assertEqual(BODY, FACED.adjoint)
        self.assertEqual([len(least_rows(BODY)), density(BODY)], [4, (27, 16)])

    def test_matrices_and_forms(self):
        turn = ((1, 1), (0, 1))
        self.assertEqual(
            [led_row(turn, (1, -2)), matrix_back(turn), matrix_product(turn, matrix_back(turn)) == unit_matrix(2),
             normal_row((0, -2, 1)), square((1, -2))],
            [(-1, -2), ((1, -1), (0, 1)), True, (0, 2, -1), ((1, -2), (-2, 4))])
        self.assertEqual(
            (led_table(PLANE.table, turn), moved_table(PLANE.table, turn),
             together(PLANE.table, square((1, -2))), PLANE.value((1, -2))),
            (((2, 3), (3, 6)), ((6, 3), (3, 2)), 6, 6))
        self.assertEqual(
            [BODY.determinant, BODY.minors, BODY.adjoint.content, BODY.adjoint.cleared() == FACED,
             FACED.adjoint == BODY, BODY.pairing((1, 1, 0), (0, 1, 1))],
            [16, (3, 8, 16), 4, True, True, 0])
        self.assertEqual(
            [str(PLANE + PLANE.led(turn)), str(Form.diagonal(1, 3) * 2), len(CUBE),
             is_positive(2, ((1, 2), (2, 3))), is_barrier(2, ((1, 2), (2, 3)), (2, -1)),
             barrier(2, ((1, 0), (0, 1)))],
            ["form 4 4/4 8", "form 2 0/0 6", 3, False, True, None])
        with self.assertRaises(InvalidForm):
            Form(((1, 1), (1, 1)))
        with self.assertRaises(InvalidNumber) as caught:
            PLANE * 0
        self.assertEqual(caught.exception.given, 0)

    def test_bases(self):
        far, long_form = Form(((10, 7), (7, 5))), Form(((7, 4, 6), (4, 9, 2), (6, 2, 11)))
        self.assertEqual(
            [is_reduced(far), reduced(far)[0].table, is_reducing(far, ((-1, -2), (1, 3))),
             least_form(Form(((5, 3), (3, 7)))).table],
            [False, ((1, 0), (0, 1)), True, ((5, 2), (2, 6))])
        self.assertEqual([far.value((-1, 1)), far.value((-2, 3)), far.pairing((-1, 1), (-2, 3))], [1, 1, 0])
        self.assertEqual(
            [successive_values(long_form), successive_values(BODY), is_reduced(long_form), is_reduced(BODY)],
            [(6, 7, 8), (3, 3, 3), False, True])
        frame = ((0, 0, 0, 1), (0, 0, 1, 0), (1, -1, 0, 0), (1, 1, -1, -1))
        self.assertEqual(
            [is_successive(TWENTY_FOUR, frame), is_basis(4, frame),
             is_successive(long_form, ((1, 0, -1), (1, 0, 0), (-1, 1, 0)))],
            [True, False, True])
        self.assertIn(determinant(frame), (2, -2))
        with self.assertRaises(InvalidOperation):
            least_form(CUBE)

    def test_rows(self):
        self.assertEqual(
            [least_value(BODY), least_rows(BODY), rows_up_to(BODY, 4)[4:], is_least_row(BODY, (1, 1, 1)),
             is_least_row(BODY, (-1, -1, -1))],
            [3, ((0, 0, 1), (0, 1, 0), (1, 0, 0), (1, 1, 1)), ((0, 1, 1), (1, 0, 1), (1, 1, 0)), True, False])
        self.assertEqual(
            [rows_of_value(PLANE, 6), count_values(PLANE, 8), count_values(TWENTY_FOUR, 4)],
            [((1, -2), (1, 1), (2, -1)), (1, 0, 6, 0, 0, 0, 6, 0, 6), (1, 0, 24, 0, 24)])
        self.assertEqual(
            [row for row, number in zip(each_row(CUBE), range(5))],
            [(0, 0, 1), (0, 1, 0), (1, 0, 0), (0, 1, -1), (0, 1, 1)])
        self.assertEqual(
            [least_rows(Form(((5, 7), (7, 10)))), density(BODY), density(FACED), is_denser(FACED, BODY),
             is_denser(CUBE, CUBE)],
            [((1, -1), (3, -2)), (27, 16), (2, 1), True, False])
        with self.assertRaises(TooMany) as caught:
            rows_up_to(CUBE, 1000)
        self.assertEqual(caught.exception.most, 2000)

    def test_alikes(self):
        other = Form(((2, -1), (-1, 2)))
        self.assertEqual(
            ([count_keepers(form) for form in (PLANE, CUBE, BODY, FACED, TWENTY_FOUR)],
             [len(matrices_between(PLANE, other)), are_alike(BODY, FACED)]),
            ([12, 48, 48, 48, 1152], [12, False]))
        self.assertEqual(
            (matrices_between(Form(((3, 1), (1, 4))), Form(((3, -1), (-1, 4)))),
             are_turned_alike(Form(((3, 1), (1, 4))), Form(((3, -1), (-1, 4)))), are_turned_alike(PLANE, PLANE)),
            ((((-1, 0), (0, 1)), ((1, 0), (0, -1))), False, True))
        self.assertEqual(
            [keeper_order(PLANE, ((1, 1), (-1, 0))), keepers(PLANE)[0], multiple_between(CUBE, CUBE * 4)[:2],
             multiple_between(CUBE, FACED)],
            [6, ((-1, -1), (0, 1)), (1, 4), None])
        self.assertEqual(
            (row_kinds(Form(((1, 0, 0), (0, 1, 0), (0, 0, 2))), 2),
             first_unlike(PLANE, Form(((2, 0), (0, 2))), 10), first_unlike(PLANE, PLANE, 20)),
            ((((0, 0, 1),), ((1, -1, 0), (1, 1, 0))), 2, None))
        self.assertEqual(
            alike_parts((CUBE, PLANE, other, FACED, Form(((2, 1, 0), (1, 2, 1), (0, 1, 2))))),
            ((0,), (1, 2), (3, 4)))
        with self.assertRaises(InvalidOperation):
            keeper_order(PLANE, ((1, 1), (0, 1)))
