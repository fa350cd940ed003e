"""Every example of DOC.md that speaks of told forms, cones, chains, weights, addresses, prices and bounds."""

import unittest

from ballgrids.bound.bounds import (
    bound, bound_by, bound_paper, dual_product, is_bound_paper, is_densest, shortfall, value_product)
from ballgrids.chain.chains import chain, each_rise, greatest_t, is_chain, is_rise, is_rising, rise_rows, risen
from ballgrids.cone.addresses import (
    address, are_alike_by_faces, copies_beside, face_of, is_address, is_walk, walk)
from ballgrids.cone.cones import (
    are_beside, behind, crossed, is_in_cone, level_weights, wall_rows, wall_tables, weighted)
from ballgrids.cone.told import Copy, frames, rays_of, told_form
from ballgrids.errors import InvalidOperation, InvalidRows, UnknownName
from ballgrids.form.forms import Form
from ballgrids.price.prices import (
    is_cheapest, is_price_paper, is_price_table, is_writing, least_price, price_at, price_excess, price_of, price_paper,
    sum_of_writing)
from ballgrids.span.spans import (
    base_of_zeros, blanks, is_blank, is_perfect, is_told_copy, rank_of_rows, rank_of_squares, table_by_values, told_copy)
from ballgrids.weight.weights import (
    blocking, critical_forms, critical_index, is_blocking, is_locally_densest, is_opposing, level_number, opposing,
    weights_of_adjoint)
from tests.helper import BODY, CUBE, FACED, FOURTH, GRID, PLANE, TWENTY_FOUR

FIRST = Copy.first(2)
SHEARED = Copy("A2", ((1, 1), (0, 1)))


class Examples(unittest.TestCase):
    def test_told(self):
        self.assertEqual(
            [rays_of("A2"), len(rays_of("A4")), len(rays_of("D4")), [frame[0] for frame in frames()],
             told_form("A2") == PLANE],
            [((0, 1), (1, -1), (1, 0)), 10, 12, [(0, 0, 0, 1), (0, 1, -1, -1), (0, 1, -1, 0)], True])
        self.assertEqual(
            [SHEARED.rays, SHEARED.rows, SHEARED.form.table, (1, -1) in SHEARED, (-1, -1) in SHEARED, str(SHEARED)],
            [((1, 1), (0, 1), (1, 0)), ((0, 1), (1, 0), (1, 1)), ((2, -1), (-1, 2)), False, True, "copy of A2"])
        self.assertEqual(
            [Copy("A2", ((0, 1), (1, 0))) == Copy.first(2), SHEARED.led(((1, -1), (0, 1))) == Copy.first(2),
             SHEARED == Copy.first(2), Copy.first(3).form == FACED],
            [True, True, False, True])
        with self.assertRaises(UnknownName) as caught:
            Copy("E8", ((1, 0), (0, 1)))
        self.assertEqual(caught.exception.wanted, "E8")

    def test_spans(self):
        self.assertEqual(
            ([rank_of_squares(form) for form in (PLANE, CUBE, BODY, FACED, TWENTY_FOUR)],
             [is_perfect(form) for form in (PLANE, BODY, TWENTY_FOUR * 5)]),
            ([3, 3, 4, 6, 10], [True, False, True]))
        self.assertEqual(
            (blanks(BODY), len(blanks(CUBE)), blanks(FACED), is_blank(CUBE, ((0, 2, 0), (2, 0, 5), (0, 5, 0))),
             is_blank(CUBE, ((0, 0, 0), (0, 0, 0), (0, 0, 0)))),
            ((((0, 1, 0), (1, 0, -1), (0, -1, 0)), ((0, 0, 1), (0, 0, -1), (1, -1, 0))), 3, (), True, False))
        self.assertEqual(
            (table_by_values(2, ((1, 0), (0, 1), (1, 1)), (2, 2, 3)),
             table_by_values(2, ((1, 0), (0, 1), (1, 1), (1, -1)), (1, 1, 1, 1)),
             rank_of_rows(3, ((1, 0, 0), (-1, 0, 0), (0, 0, 0)))),
            ((((4, -1), (-1, 4)), 2), None, 1))
        self.assertEqual(
            (is_told_copy(FACED * 3, told_copy(FACED * 3)), told_copy(FACED * 3)[1], told_copy(CUBE)), (True, 3, None))
        with self.assertRaises(InvalidRows):
            base_of_zeros(2, ((1, 0), (1, 0, 0)))

    def test_chains(self):
        up = ((0, 1, 1), (1, 0, 1), (1, 1, 0))
        self.assertEqual(
            [is_rising(CUBE, up), greatest_t(CUBE, up), risen(CUBE, up) == FACED, rise_rows(CUBE, up)],
            [True, (1, 2), True, ((0, 1, -1), (1, -1, 0), (1, 0, -1))])
        self.assertEqual(
            ([form.table for form in each_rise(BODY)], greatest_t(BODY, ((0, 1, 0), (1, 0, -1), (0, -1, 0))),
             list(each_rise(FACED))),
            ([((6, -1, -2), (-1, 6, -3), (-2, -3, 6)), ((6, -2, -1), (-2, 6, -3), (-1, -3, 6))], (1, 2), []))
        self.assertEqual(
            [is_chain(GRID, (GRID, TWENTY_FOUR)), is_chain(GRID * 3, (GRID, FOURTH)), is_chain(GRID, (GRID,)),
             is_rise(CUBE, FACED * 2), is_chain(BODY, chain(BODY)), len(chain(PLANE))],
            [True, True, False, False, True, 1])
        with self.assertRaises(InvalidOperation):
            greatest_t(FACED, up)

    def test_cones(self):
        table = ((0, -1), (-1, 0))
        self.assertEqual(
            [wall_tables(FIRST), wall_rows(FIRST, table), behind(FIRST, table).rows, behind(FIRST, table).form.table],
            [(((0, -1), (-1, 0)), ((0, 1), (1, 2)), ((2, 1), (1, 0))), ((0, 1), (1, 0)), ((0, 1), (1, 0), (1, 1)),
             ((2, -1), (-1, 2))])
        self.assertEqual(
            [level_weights(FIRST, ((2, -1), (-1, 3))), level_weights(FIRST, PLANE.table), crossed(FIRST, PLANE.table),
             weighted(FIRST, (2, 1, 1))],
            [(1, (2, 1, 1)), (1, (3, -1, 3)), (((0, -1), (-1, 0)),), ((2, -1), (-1, 3))])
        dense = Copy("D4", ((1, 0, 0, 0), (0, 1, 0, 0), (0, 0, 1, 0), (0, 0, 0, 1)))
        self.assertEqual(
            [len(wall_tables(dense)), len(wall_tables(Copy.first(4))),
             sum([behind(dense, told).name == "D4" for told in wall_tables(dense)])],
            [64, 10, 16])
        self.assertEqual(
            [level_weights(dense, TWENTY_FOUR.adjoint.table), is_in_cone(dense, TWENTY_FOUR.adjoint.table),
             is_in_cone(dense, TWENTY_FOUR.table), are_beside(FIRST, SHEARED)],
            [(3, (2, 2, 2, 2, 2, 2, 2, 2, 2, 2, 2, 2)), True, False, True])
        with self.assertRaises(InvalidOperation):
            behind(FIRST, ((2, 1), (1, 2)))

    def test_weights(self):
        self.assertEqual(
            [weights_of_adjoint(form) for form in (CUBE, PLANE, BODY, TWENTY_FOUR, Form(((1, 0), (0, 2))))],
            [(1, (1, 1, 1)), (1, (1, 1, 1)), (1, (4, 4, 4, 4)), (3, (2, 2, 2, 2, 2, 2, 2, 2, 2, 2, 2, 2)), None])
        self.assertEqual(
            ([level_number(form) for form in (CUBE, FACED, Form(((5, 1), (1, 5))), critical_forms(4)[8])],
             [is_locally_densest(form) for form in (CUBE, FACED, BODY)]),
            ([2, 2, 0, 1], [False, True, False]))
        long_form = Form(((1, 0), (0, 2)))
        self.assertEqual(
            [is_opposing(long_form, ((0, 0), (0, -1))), is_opposing(long_form, ((1, 0), (0, -2))),
             is_blocking(long_form, ((1, 0), (0, -2))), opposing(CUBE), blocking(CUBE)],
            [True, False, True, None, None])
        self.assertEqual(
            ([critical_index(form) for form in (CUBE, BODY * 5, FACED, long_form)],
             [len(critical_forms(size)) for size in (2, 3, 4)]),
            ([0, 2, 4, None], [2, 5, 15]))
        self.assertEqual(Form(((5, 1), (1, 5))).adjoint.table[0][1], -1)

    def test_addresses(self):
        self.assertEqual(
            [face_of(PLANE), face_of(CUBE), face_of(BODY)],
            [(((0, 1), (1, 0), (1, 1)), 1, (1, 1, 1)), (((0, 0, 1), (0, 1, 0), (1, 0, 0)), 1, (1, 1, 1)),
             (((0, 0, 1), (0, 1, -1), (0, 1, 0), (1, -1, 0), (1, 0, -1), (1, 0, 0)), 1, (1, 1, 1, 1, 1, 1))])
        place, scale, weights = address(BODY)
        self.assertEqual(
            [place == Copy.first(3), scale, weights, is_address(BODY, (place, 1, weights)),
             is_address(BODY, (place, 2, (2, 2, 2, 2, 2, 2)))],
            [True, 1, (1, 1, 1, 1, 1, 1), True, False])
        self.assertEqual(
            [is_walk(PLANE, (Copy.first(2), Copy("A2", ((1, 1), (0, 1))))), is_walk(PLANE, (Copy.first(2),)),
             is_walk(PLANE, walk(PLANE)), copies_beside(BODY, place)],
            [True, False, True, ()])
        self.assertEqual(
            [len(copies_beside(CUBE, Copy.first(3))), are_alike_by_faces(PLANE, Form(((2, -1), (-1, 2)))),
             are_alike_by_faces(FACED, BODY)],
            [3, True, False])
        self.assertEqual(face_of(TWENTY_FOUR.adjoint)[1:], (3, (2, 2, 2, 2, 2, 2, 2, 2, 2, 2, 2, 2)))

    def test_prices(self):
        self.assertEqual(
            [least_price(form) for form in (PLANE, CUBE, FACED, BODY, TWENTY_FOUR, CUBE * 5)],
            [(3, 1), (3, 1), (4, 1), (6, 1), (4, 1), (15, 1)])
        self.assertEqual(
            [is_price_table(2, ((2, 1), (1, 2)), 2), is_price_table(2, ((2, 1), (1, 2)), 3),
             is_price_table(2, ((1, 1), (1, 1)), 1)],
            [True, False, False])
        units = (((0, 1), (1, 0), (1, 1)), (1, 1, 1), 1)
        self.assertEqual(
            [is_writing(PLANE, units), sum_of_writing(PLANE, units), price_of(PLANE, ((2, -1), (-1, 2)), 2),
             price_of(PLANE, ((1, 0), (0, 1)), 1)],
            [True, (3, 1), (3, 1), (4, 1)])
        self.assertEqual(
            [price_excess(PLANE, ((1, 0), (0, 1)), 1, units), is_price_paper(PLANE, (((2, -1), (-1, 2)), 2) + units),
             is_price_paper(CUBE, price_paper(CUBE))],
            [(1, 1), True, True])
        self.assertEqual(
            [price_at(Copy("A2", ((1, 0), (0, 1))), PLANE), price_at(Copy("A2", ((-1, 0), (0, 1))), PLANE),
             is_cheapest(Copy("A2", ((-1, 0), (0, 1))), PLANE)],
            [(5, 1), (3, 1), True])
        with self.assertRaises(InvalidOperation):
            price_of(PLANE, ((2, 1), (1, 2)), 3)

    def test_bounds(self):
        self.assertEqual(
            ([bound(form) for form in (PLANE, CUBE, BODY, TWENTY_FOUR, Form.diagonal(1, 1, 1, 1))],
             is_densest(TWENTY_FOUR), is_densest(BODY)),
            ([(4, 3), (2, 1), (2, 1), (4, 1), (16, 5)], True, False))
        self.assertEqual(
            [shortfall(form) for form in (PLANE, CUBE, BODY, Form.diagonal(1, 2))], [(0, 1), (0, 1), (0, 1), (1, 1)])
        self.assertEqual(
            ([dual_product(form) for form in (PLANE, CUBE, FACED, BODY, TWENTY_FOUR)],
             [value_product(form) for form in (CUBE, BODY, Form.diagonal(1, 2))]),
            ([(4, 3), (1, 1), (3, 2), (3, 2), (2, 1)], [(1, 1), (27, 16), (1, 1)]))
        self.assertEqual(
            [is_bound_paper(BODY, bound_paper(BODY)), bound_by(BODY, bound_paper(BODY)), is_bound_paper(BODY, address(BODY))],
            [True, (2, 1), False])
        with self.assertRaises(InvalidOperation):
            bound_by(CUBE, None)
