"""Addresses, walks and face rows [0.18], [11.1] to [11.5]."""

import unittest

from ballgrids.alike.alikes import are_alike
from ballgrids.cone.addresses import (
    address, are_alike_by_faces, copies_beside, face_of, is_address, is_walk, walk)
from ballgrids.cone.cones import (
    are_beside, behind, crossed, is_in_cone, level_weights, wall_rows, wall_tables, weighted)
from ballgrids.cone.faces import are_faces_alike, leads_face
from ballgrids.cone.told import NAMES, Copy, frames, rays_of, told_form
from ballgrids.errors import InvalidCopy, InvalidForm, InvalidOperation
from ballgrids.form.forms import Form
from ballgrids.short.rows import least_rows
from ballgrids.weight.weights import critical_forms
from tests.helper import (
    BODY, CUBE, FACED, FORMS, FOURTH, GRID, LONG, MOST, PLANE, TWENTY_FOUR, WRONG, chance_of, far_matrix, lead,
    many_forms, multiple, normal, outcome, product_sum, some_matrix, some_table, square_of, sum_table, transposed, unit)

SIZE = {"A2": 2, "A3": 3, "A4": 4, "D4": 4}
FIRST = {2: "A2", 3: "A3", 4: "A4"}
CRITICAL = [form for size in (2, 3, 4) for form in critical_forms(size)]
PLACES = [[rays_of("D4").index(ray) for ray in frame] for frame in frames()]
STEEP = (
    Form.diagonal(1, MOST), Form.diagonal(1, 10 ** 30, MOST), Form.diagonal(1, 1, 1, MOST), Form.diagonal(1, MOST, MOST, MOST),
    Form(((10 ** 15, 4 * 10 ** 14 + 1, 10 ** 14 + 3, 7), (4 * 10 ** 14 + 1, 10 ** 30, 3 * 10 ** 14, 10 ** 29 + 9),
          (10 ** 14 + 3, 3 * 10 ** 14, 10 ** 45, 4 * 10 ** 44 + 1), (7, 10 ** 29 + 9, 4 * 10 ** 44 + 1, 10 ** 59))))


def told(name):
    return Copy(name, unit(SIZE[name]))


def tables_of_cones(seed, count):
    """Forms by weights along the rays of copies: inside of cones, on one wall and on several ones."""
    chance = chance_of(seed)
    made = []
    for _ in range(count):
        for name in NAMES:
            copy = Copy(name, some_matrix(chance, SIZE[name], 3, 2))
            made.append((copy, weighted(copy, tuple(chance.randint(1, 4) for _ in range(len(copy))))))
            walls = wall_tables(copy)
            for wall in (walls[0], walls[len(walls) // 2], walls[-1]):
                rows = wall_rows(copy, wall)
                made.append((copy, weighted(copy, tuple(chance.randint(1, 4) * (ray in rows) for ray in copy.rays))))
            made.append((copy, weighted(copy, tuple(chance.choice((0, 1, 1, 2)) for _ in range(len(copy))))))
    return [(copy, Form(table)) for copy, table in made if isinstance(outcome(Form, table), Form)]


def all_forms(seed, count):
    forms = many_forms(seed, count) + CRITICAL + list(STEEP) + [form for _, form in tables_of_cones(seed, 2)]
    return forms + [form.adjoint for form in forms[::3]]


class Addresses(unittest.TestCase):
    def check_address(self, form, found):
        self.assertIs(type(found), tuple)
        copy, scale, weights = found
        self.assertIs(type(copy), Copy)
        self.assertEqual(copy.size, form.size)
        self.assertGreaterEqual(min(weights), 0)
        self.assertEqual(multiple(form.table, scale), sum_table([square_of(ray) for ray in copy.rays], weights))
        if max(max(map(abs, row)) for row in form.table) < LONG:
            self.assertEqual((scale, weights), level_weights(copy, form.table))
            self.assertTrue(is_in_cone(copy, form.table))
        self.assertLess(max([abs(n) for row in copy.matrix for n in row] + list(weights)), 10 ** 400)
        self.assertIs(is_address(form, found), True)

    def test_11_1_addresses(self):
        for form in all_forms(121, 20):
            self.check_address(form, address(form))

    def test_far_forms(self):
        chance = chance_of(122)
        for size in (2, 3, 4):
            for form in (Form(some_table(chance, size, 10 ** 29)), Form.diagonal(*[1] * size).led(far_matrix(chance, size, 29)),
                         told_form(FIRST[size]).led(far_matrix(chance, size, 28))):
                self.check_address(form, address(form))
                self.check_address(form.adjoint, address(form.adjoint))
                self.assertTrue(is_walk(form, walk(form)))
                self.assertLessEqual(len(walk(form)), 2000)
                further = form.led(far_matrix(chance, size, 60)).led(far_matrix(chance, size, 60))
                self.assertTrue(is_address(further, address(further)))
                self.assertEqual(face_of(further)[1], face_of(form)[1])

    def test_11_1_judging(self):
        for copy, form in tables_of_cones(123, 1):
            scale, weights = level_weights(copy, form.table)
            self.assertIs(is_address(form, (copy, scale, weights)), True)
            for wrong in (
                    (copy, scale + 1, weights), (copy, scale * 2, tuple(2 * weight for weight in weights)), (copy, scale),
                    (copy, scale, weights[::-1]) if weights != weights[::-1] else None, (copy, -scale, tuple(-w for w in weights)),
                    (copy, scale, list(weights)), [copy, scale, weights], (copy.form, scale, weights), (copy, scale, weights, 1),
                    (copy, scale, weights + (0,)), (copy, scale, weights[:-1]), (copy, str(scale), weights),
                    (copy, scale, None), (copy, None, weights), (None, scale, weights), (copy, scale, copy),
                    (copy, scale, tuple(bool(w) if w in (0, 1) else w for w in weights)) if set(weights) & {0, 1} else None,
                    (copy, True, weights), copy, (scale, weights), (copy.matrix, scale, weights)):
                self.assertIs(is_address(form, wrong), False, wrong)
        self.assertIs(is_address(CUBE, (Copy.first(3), True, (1, 0, 1, 0, 0, 1))), False)

    def test_11_1_addresses_outside(self):
        # The weights of a table outside of a cone are below 0 somewhere.
        self.assertEqual(level_weights(Copy.first(2), PLANE.table), (1, (3, -1, 3)))
        self.assertIs(is_address(PLANE, (Copy.first(2), 1, (3, -1, 3))), False)
        self.assertIs(is_address(CUBE, (told("A2"), 1, (1, 0, 1))), False)
        # Of all weights by which a table is told only the level ones count.
        copy = told("D4")
        form = Form(weighted(copy, (2,) * 12))
        self.assertIs(is_address(form, (copy, 1, (2,) * 12)), True)
        moved = tuple(3 if place in PLACES[0] else 1 if place in PLACES[1] else 2 for place in range(12))
        self.assertEqual(weighted(copy, moved), form.table)
        self.assertIs(is_address(form, (copy, 1, moved)), False)

    def test_other_matrices(self):
        # An address by another matrix of the same copy, and by another copy, is correct, too.
        turned = Copy("A2", ((0, 1), (1, 0)))
        form = Form(weighted(turned, (1, 2, 3)))
        self.assertIs(is_address(form, (turned, 1, (1, 2, 3))), True)
        self.assertIs(is_address(form, (Copy.first(2), 1, (3, 2, 1))), True)
        self.assertIs(is_address(form, (Copy.first(2), 1, (1, 2, 3))), False)
        beside = copies_beside(CUBE, Copy.first(3))
        for copy in beside:
            self.assertIs(is_address(CUBE, (copy,) + level_weights(copy, CUBE.table)), True)

    def test_long_integers(self):
        chance = chance_of(124)
        for name in NAMES:
            copy, form = told(name), Form(weighted(told(name), tuple(range(1, len(told(name)) + 1))))
            scale, weights = level_weights(copy, form.table)
            matrix = far_matrix(chance, SIZE[name], 60)
            far = form
            for _ in range(3):
                copy, far = copy.led(transposed(matrix)), far.led(matrix)
            self.assertGreater(max(far.table[0]), 10 ** 100)
            self.assertTrue(is_address(far, (copy, scale, weights)))
            self.assertTrue(is_address(far, address(far)))
            self.assertEqual(face_of(far)[1], scale)
            self.assertTrue(is_walk(far, walk(far)))


class Faces(unittest.TestCase):
    def test_11_2_face_rows(self):
        for form in all_forms(125, 20):
            copy, scale, weights = address(form)
            face = sorted((ray, weight) for ray, weight in zip(copy.rays, weights) if weight)
            self.assertEqual(face_of(form), (tuple(ray for ray, _ in face), scale, tuple(weight for _, weight in face)))
            self.assertGreaterEqual(len(face), form.size)

    def test_0_18_the_same_for_each_copy(self):
        for copy, form in tables_of_cones(126, 3):
            rows, scale, weights = face_of(form)
            for other in (copy,) + copies_beside(form, copy):
                told_scale, told_weights = level_weights(other, form.table)
                face = sorted((ray, weight) for ray, weight in zip(other.rays, told_weights) if weight)
                self.assertEqual((rows, weights), (tuple(ray for ray, _ in face), tuple(weight for _, weight in face)))
                self.assertEqual(told_scale, scale)

    def test_led_faces(self):
        chance = chance_of(127)
        for _, form in tables_of_cones(128, 1):
            matrix = some_matrix(chance, form.size, 4, 3)
            rows, scale, weights = face_of(form)
            face = sorted((normal(lead(transposed(matrix), row)), weight) for row, weight in zip(rows, weights))
            self.assertEqual(face_of(form.led(matrix)),
                             (tuple(row for row, _ in face), scale, tuple(weight for _, weight in face)))
            self.assertEqual(face_of(form * 3)[0], rows)

    def test_multiples(self):
        self.assertEqual(face_of(CUBE * MOST), (((0, 0, 1), (0, 1, 0), (1, 0, 0)), 1, (MOST,) * 3))
        self.assertEqual(face_of(TWENTY_FOUR.adjoint * 3)[1:], (1, (2,) * 12))


class Walks(unittest.TestCase):
    def test_11_3_walks(self):
        for form in all_forms(129, 20):
            found = walk(form)
            self.assertIs(type(found), tuple)
            self.assertIs(is_walk(form, found), True)
            self.assertEqual(found[0].name, FIRST[form.size])
            self.assertTrue(is_address(form, (found[-1],) + weights_of(found[-1], form)))
            for ahead, copy in zip(found, found[1:]):
                self.assertTrue(are_beside(ahead, copy))
                self.assertLess(product_sum(copy.form.table, form.table), product_sum(ahead.form.table, form.table))

    def test_11_3_any_wall(self):
        # Whichever wall is taken: the way ends, and it is a walk.
        chance = chance_of(130)
        for form in many_forms(131, 15):
            copy = Copy.first(form.size).led(some_matrix(chance, form.size, 2, 1))
            way = [copy]
            while crossed(way[-1], form.table):
                way.append(behind(way[-1], chance.choice(crossed(way[-1], form.table))))
            self.assertIs(is_walk(form, tuple(way)), True)
            self.assertIs(is_walk(form * 7, tuple(way)), True)
            if len(way) > 1:
                self.assertIs(is_walk(form, tuple(way[:-1])), False)
                self.assertIs(is_walk(form, tuple(way[1:])), way[1].name != "D4")
                self.assertIs(is_walk(form, tuple(way[::-1])), False)
                self.assertIs(is_walk(form, tuple(way[:1] + way)), False)
                self.assertIs(is_walk(form, tuple(way + way[-1:])), False)
                self.assertIs(is_walk(form, (way[0], way[0])), False)
            if len(way) > 2:
                self.assertIs(is_walk(form, (way[0],) + tuple(way[2:])), are_beside(way[0], way[2]))

    def test_going_on_behind_the_end(self):
        # Over a wall on which the table lies there is another copy with it, but no walk goes there.
        copy = Copy.first(3)
        self.assertTrue(is_walk(CUBE, (copy,)))
        for other in copies_beside(CUBE, copy):
            self.assertFalse(is_walk(CUBE, (copy, other)))
            self.assertTrue(is_walk(CUBE, (other,)))
        inside = Form(weighted(copy, (1, 1, 1, 1, 1, 1)))
        for table in wall_tables(copy):
            self.assertFalse(is_walk(inside, (copy, behind(copy, table))))
            self.assertTrue(is_walk(inside, (behind(copy, table), copy)))
            self.assertFalse(is_walk(inside, (behind(copy, table),)))

    def test_walks_that_begin_at_d4(self):
        copy = told("D4")
        form = Form(weighted(copy, (1,) * 12))
        self.assertIs(is_walk(form, (copy,)), False)
        near = [other for other in (behind(copy, table) for table in wall_tables(copy)) if other.name == "A4"]
        self.assertIs(is_walk(form, (near[0], copy)), True)
        self.assertIs(is_walk(form, (near[0],)), False)

    def test_copies_of_another_size_on_the_way(self):
        # The forms of these copies begin as those of the right size do.
        copy = Copy("A3", ((-1, 0, 0), (0, 1, 0), (0, 0, 1)))
        self.assertEqual([row[:2] for row in copy.form.table[:2]], [(2, -1), (-1, 2)])
        self.assertIs(is_walk(PLANE, (Copy.first(2), copy)), False)
        self.assertIs(is_walk(PLANE, (copy,)), False)

    def test_judging(self):
        for form in (PLANE, CUBE, BODY, GRID, TWENTY_FOUR):
            found = walk(form)
            unlike = Copy.first(3 if form.size == 2 else 2)
            for wrong in (
                    (), list(found), found[0], found + (None,), (None,) + found, found + (unlike,), (unlike,) + found,
                    (found,), tuple(copy.form for copy in found), tuple(copy.matrix for copy in found), (form,),
                    found + (found[-1],), (told("A4"), told("A3")), (told("A2"), told("A3"))):
                self.assertIs(is_walk(form, wrong), False)
            for wrong in WRONG:
                self.assertIs(is_walk(form, wrong), False)
                self.assertIs(is_walk(form, (wrong,)), False)
                self.assertIs(is_walk(form, (found[0], wrong)), False)
                self.assertIs(is_walk(form, (found[0], wrong, wrong)), False)
                self.assertIs(is_address(form, wrong), False)
                self.assertIs(is_address(form, (found[-1], 1, wrong)), False)
                self.assertIs(is_address(form, (found[-1], wrong, weights_of(found[-1], form)[1])), False)
                self.assertIs(is_address(form, (wrong,) + weights_of(found[-1], form)), False)


def weights_of(copy, form):
    """The level weights, also of forms with long integers."""
    if max(max(map(abs, row)) for row in form.table) < LONG:
        return level_weights(copy, form.table)
    return address(form)[1:]


class Beside(unittest.TestCase):
    def test_copies_beside(self):
        for copy, form in tables_of_cones(132, 2):
            found = copies_beside(form, copy)
            walls = [table for table in wall_tables(copy) if product_sum(table, form.table) == 0]
            self.assertIs(type(found), tuple)
            self.assertEqual(len(found), len(walls))
            for table, other in zip(walls, found):
                self.assertTrue(other == behind(copy, table))
                self.assertTrue(is_in_cone(other, form.table))

    def test_a4_and_d4_beside_d4(self):
        copy = told("D4")
        names = []
        for table in wall_tables(copy):
            rows = wall_rows(copy, table)
            form = Form(weighted(copy, tuple(int(ray in rows) for ray in copy.rays)))
            (other,) = copies_beside(form, copy)
            names.append(other.name)
            self.assertEqual(face_of(form)[0], rows)
            back = copies_beside(form, other)
            self.assertTrue(len(back) == 1 and back[0] == copy)
        self.assertEqual((names.count("D4"), names.count("A4")), (16, 48))

    def test_errors(self):
        self.assertIs(type(outcome(copies_beside, PLANE, Copy.first(2))), InvalidOperation)
        self.assertIs(type(outcome(copies_beside, PLANE, Copy.first(3))), InvalidOperation)
        self.assertIs(type(outcome(copies_beside, GRID, Copy.first(3))), InvalidOperation)
        for wrong in WRONG + (PLANE.table, "A2"):
            self.assertIs(type(outcome(copies_beside, PLANE, wrong)), InvalidCopy)
            if not isinstance(wrong, Form):
                self.assertIs(type(outcome(copies_beside, wrong, Copy.first(2))), InvalidForm)
                self.assertIs(type(outcome(copies_beside, wrong, None)), InvalidForm)
        self.assertIs(type(outcome(copies_beside, Copy.first(2), PLANE)), InvalidForm)


class Alike(unittest.TestCase):
    def test_11_4_alike_forms(self):
        chance = chance_of(133)
        for form in all_forms(134, 10):
            other = form.led(some_matrix(chance, form.size, 4, 2))
            self.assertIs(are_alike_by_faces(form, other), True)
            self.assertIs(are_alike_by_faces(other, form), True)
            self.assertIs(are_alike_by_faces(form, form * 2), False)

    def test_11_4_all_pairs(self):
        forms = many_forms(135, 16, 2) + CRITICAL
        for one in forms:
            for other in forms:
                if one.size == other.size:
                    self.assertIs(are_alike_by_faces(one, other), are_alike(one, other))

    def test_equal_weights_at_other_places(self):
        # The same weights, once along three rays that are a basis of a face each two of which lie beside the third.
        one, other = (Form(weighted(Copy.first(3), weights)) for weights in ((1, 1, 1, 1, 0, 0), (1, 1, 1, 0, 1, 0)))
        self.assertEqual(sorted(face_of(one)[2]), sorted(face_of(other)[2]))
        self.assertIs(are_alike_by_faces(one, other), are_alike(one, other))
        ring = Form(sum_table([square_of(row) for row in ((0, 0, 1), (0, 1, -1), (1, -1, 0), (1, 0, 0))]))
        fork = Form(sum_table([square_of(row) for row in ((0, 0, 1), (0, 1, -1), (0, 1, 0), (1, -1, 0))]))
        self.assertEqual(face_of(ring)[1:], face_of(fork)[1:])
        self.assertIs(are_alike_by_faces(ring, fork), False)
        self.assertIs(are_alike(ring, fork), False)

    def test_unlike_scales(self):
        # The same rows and weights: they tell a table, and with another scale the third part of it.
        one, other = TWENTY_FOUR.adjoint, TWENTY_FOUR.adjoint * 3
        self.assertEqual(face_of(one)[::2], face_of(other)[::2])
        self.assertEqual((face_of(one)[1], face_of(other)[1]), (3, 1))
        self.assertIs(are_alike_by_faces(one, other), False)

    def test_only_matrices_lead_faces(self):
        face = [((0, 1), 1), ((1, 0), 1)]
        self.assertTrue(leads_face(((0, 1), (1, 0)), face, face))
        self.assertTrue(leads_face(((0, -1), (1, 0)), face, face))
        self.assertFalse(leads_face(((2, 0), (0, 1)), face, [((0, 1), 1), ((2, 0), 1)]))
        self.assertFalse(leads_face(((0, 1), (1, 0)), face, [((0, 1), 1), ((1, 0), 2)]))
        self.assertFalse(leads_face(((1, 1), (0, 1)), face, face))
        self.assertFalse(are_faces_alike([((0, 1), 1), ((2, 1), 1)], face))
        self.assertTrue(are_faces_alike([((0, 1), 1), ((1, 2), 1)], face))
        self.assertFalse(are_faces_alike(face, face[:1]))

    def test_weights_in_another_order(self):
        tables = [weighted(Copy.first(3), weights) for weights in (
            (1, 2, 3, 4, 5, 6), (6, 5, 4, 3, 2, 1), (2, 1, 3, 4, 5, 6), (1, 2, 3, 4, 6, 5), (4, 2, 3, 1, 5, 6))]
        for one in map(Form, tables):
            for other in map(Form, tables):
                self.assertIs(are_alike_by_faces(one, other), are_alike(one, other))

    def test_errors(self):
        for wrong in WRONG + (Copy.first(2),):
            if not isinstance(wrong, Form):
                self.assertIs(type(outcome(are_alike_by_faces, wrong, PLANE)), InvalidForm)
                self.assertIs(type(outcome(are_alike_by_faces, PLANE, wrong)), InvalidForm)
                self.assertIs(type(outcome(are_alike_by_faces, wrong, None)), InvalidForm)
                for call in (address, face_of, walk):
                    self.assertIs(type(outcome(call, wrong)), InvalidForm)
                for call in (is_address, is_walk):
                    self.assertIs(type(outcome(call, wrong, None)), InvalidForm)
        self.assertIs(type(outcome(are_alike_by_faces, PLANE, CUBE)), InvalidOperation)
        self.assertIs(type(outcome(are_alike_by_faces, PLANE, None)), InvalidForm)

    def test_nothing_changes(self):
        for form in FORMS:
            before = str(form)
            one, other = address(form), address(form)
            self.assertTrue(one == other and one[0].matrix == other[0].matrix)
            self.assertTrue(walk(form) == walk(form))
            self.assertEqual([copy.matrix for copy in walk(form)], [copy.matrix for copy in walk(form)])
            self.assertEqual(face_of(form), face_of(form))
            self.assertTrue(copies_beside(form, one[0]) == copies_beside(form, one[0]))
            self.assertEqual(str(form), before)


class Untrue(unittest.TestCase):
    def test_11_5_rows_of_addresses(self):
        copy = Copy.first(3)
        for other in copies_beside(CUBE, copy):
            self.assertTrue(is_address(CUBE, (other,) + level_weights(other, CUBE.table)))
            self.assertNotEqual(other.rows, copy.rows)

    def test_11_5_equal_face_rows(self):
        one, other = Form.diagonal(1, 1), Form.diagonal(1, 2)
        self.assertEqual(face_of(one)[0], face_of(other)[0])
        self.assertFalse(are_alike_by_faces(one, other))

    def test_11_5_least_rows(self):
        self.assertEqual(len(face_of(BODY)[0]), 6)
        self.assertEqual(copies_beside(BODY, address(BODY)[0]), ())
        self.assertEqual(len(least_rows(BODY)), 4)

    def test_told_forms(self):
        for form in (PLANE, FACED, FOURTH, TWENTY_FOUR):
            self.assertTrue(is_address(form, address(form)))
            self.assertTrue(is_address(form.adjoint, address(form.adjoint)))
