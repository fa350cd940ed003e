"""Cells of forms: relevant rows, obtuse bases, corners and coverings [16.1] to [16.6]."""

import unittest
from fractions import Fraction
from itertools import combinations, product

from ballgrids.cell.cells import (
    corners, count_sides, covering, is_obtuse_basis, is_relevant, obtuse_basis, obtuse_weights, relevant_rows)
from ballgrids.cone.told import Copy
from ballgrids.errors import InvalidForm, InvalidOperation, InvalidRows
from ballgrids.form.forms import Form
from ballgrids.short.bases import is_basis, reduced
from ballgrids.short.rows import is_denser, least_rows
from tests.helper import (
    BODY, CUBE, FACED, FORMS, FOURTH, GRID, LONG, MOST, PLANE, TWENTY_FOUR, WRONG, calls_of, chance_of, det, far_matrix,
    inverse, is_normal, lead, many_forms, normal, outcome, pairing, rows_below, slow_rank, solved, some_matrix, some_table,
    square_of, sum_table, transposed, unit, value)

# Sums of the squares of some rows: with 6, 8, 12, 12 and 14 walls.
KINDS = {
    3: ((6, 8), ((0, 0, 1), (0, 1, 0), (1, 0, 0))),
    4: ((8, 12), ((0, 0, 1), (0, 1, -1), (0, 1, 0), (1, -1, 0))),
    5: ((12, 14), ((0, 0, 1), (0, 1, -1), (1, -1, 0), (1, 0, 0))),
    6: ((12, 18), ((0, 0, 1), (0, 1, -1), (0, 1, 0), (1, -1, 0), (1, 0, -1))),
    7: ((14, 24), ((0, 0, 1), (0, 1, -1), (0, 1, 0), (1, -1, 0), (1, 0, -1), (1, 0, 0))),
}


def few_letters(seed, count):
    """Forms in two and three letters of all kinds, some of them far from reduced ones."""
    chance = chance_of(seed)
    forms = [form for form in many_forms(seed, count) if form.size < 4]
    for _ in range(2):
        for _, rows in KINDS.values():
            weights = [chance.randint(1, 9) for _ in rows]
            form = Form(sum_table([square_of(row) for row in rows], weights))
            forms += [form, form.led(some_matrix(chance, 3, 4, 3))]
        forms.append(Form.diagonal(chance.randint(1, 9), chance.randint(1, 9)).led(some_matrix(chance, 2, 4, 3)))
    return forms


def slow_relevant(table):
    """The normal relevant rows, class by class of [16.1], from all rows up to a bound."""
    size = len(table)
    bound = max(value(table, row) for row in product((0, 1), repeat=size))
    classes = {}
    for number, row in rows_below(table, bound):
        classes.setdefault(tuple(entry % 2 for entry in row), []).append((number, row))
    found = []
    for remainders, pairs in classes.items():
        least = min(pairs)[0]
        rows = [row for number, row in pairs if number == least]
        if any(remainders) and len(rows) == 1:
            found.append(rows[0])
    return tuple(sorted(found))


def slow_corners(form):
    """All points of the cell at which walls in n independent directions meet, from all choices of n walls."""
    rows = [row for normal_row in relevant_rows(form) for row in (normal_row, tuple(-n for n in normal_row))]
    values = {row: form.value(row) for row in rows}
    found = set()
    for choice in combinations(rows, form.size):
        lines = [[2 * number for number in lead(form.table, row)] for row in choice]
        point, only = solved(lines, [values[row] for row in choice])
        if point is None or not only:
            continue
        sides = lead(form.table, point)
        if all(2 * sum(a * b for a, b in zip(sides, row)) <= values[row] for row in rows):
            found.add(tuple(point))
    return found


def as_point(corner):
    row, bottom = corner
    return tuple(Fraction(number, bottom) for number in row)


class Relevant(unittest.TestCase):
    def test_16_1_relevant_rows(self):
        for form in many_forms(401, 24, 2):
            table, matrix = reduced(form)
            found = relevant_rows(form)
            slow = sorted(normal(lead(matrix, row)) for row in slow_relevant(table.table))
            self.assertEqual(found, tuple(slow))
            self.assertIs(type(found), tuple)
            self.assertEqual(count_sides(form), 2 * len(found))
            self.assertLessEqual(len(found), 2 ** form.size - 1)
            self.assertLessEqual(form.size, len(found))
            self.assertLessEqual(set(least_rows(form)), set(found))

    def test_16_1_four_letters(self):
        chance = chance_of(402)
        seen = set()
        forms = [GRID, FOURTH, TWENTY_FOUR, FOURTH.adjoint, TWENTY_FOUR.adjoint, Form.diagonal(1, 2, 3, 4), GRID + TWENTY_FOUR]
        forms += [Form(some_table(chance, 4, 3)) for _ in range(25)]
        for form in forms:
            table = reduced(form)[0]
            found = relevant_rows(table)
            self.assertEqual(found, slow_relevant(table.table))
            seen.add(len(found))
            matrix = some_matrix(chance, 4, 4, 2)
            led = relevant_rows(table.led(matrix))
            self.assertEqual(led, tuple(sorted(normal(lead(inverse(matrix), row)) for row in found)))
        self.assertEqual([count_sides(form) for form in forms[:5]], [8, 20, 24, 30, 24])
        self.assertGreater(len(seen), 4)

    def test_16_1_judging(self):
        for form in many_forms(403, 6, 2):
            known = set(relevant_rows(form))
            for row in product(range(-2, 3), repeat=form.size):
                self.assertIs(is_relevant(form, row), any(row) and normal(row) in known)

    def test_16_1_points_between(self):
        # Half a relevant row is nearer to the zeros and to the row than to all other rows.
        for form in FORMS:
            for row in relevant_rows(form):
                middle = tuple(Fraction(number, 2) for number in row)
                for number, other in rows_below(form.table, 4 * form.value(row)):
                    for sign in (1, -1):
                        if tuple(sign * n for n in other) != row:
                            shifted = tuple(a - sign * b for a, b in zip(middle, other))
                            self.assertLess(value(form.table, middle), value(form.table, shifted))

    def test_multiples(self):
        for form in many_forms(404, 6):
            for number in (2, 30, MOST):
                self.assertEqual(relevant_rows(form * number), relevant_rows(form))

    def test_long_integers(self):
        chance = chance_of(405)
        for form in FORMS + (Form.diagonal(1, 10 ** 59), Form.diagonal(1, 10 ** 20, 10 ** 59), Form.diagonal(1, 1, 1, 10 ** 59),
                             Form(some_table(chance, 4, 10 ** 28)), Form(some_table(chance, 3, 10 ** 28))):
            matrix = far_matrix(chance, form.size, 60)
            far = form.led(matrix).led(matrix)
            found = relevant_rows(far)
            back = inverse(matrix)
            self.assertEqual(found, tuple(sorted(normal(lead(back, lead(back, row))) for row in relevant_rows(form))))
            self.assertGreater(max(abs(n) for n in found[-1]), LONG)
            for row in found:
                self.assertIs(is_relevant(far, row), True)
                self.assertIs(is_relevant(far, tuple(-n for n in row)), True)
                self.assertIs(is_relevant(far, tuple(2 * n for n in row)), False)
                self.assertIs(is_relevant(far, tuple(3 * n for n in row)), False)
        self.assertEqual(relevant_rows(Form.diagonal(1, 10 ** 59)), ((0, 1), (1, 0)))

    def test_rows_at_the_bound(self):
        # Where two rows of a class tie, neither is relevant, and a little beside it one is.
        self.assertEqual(relevant_rows(Form.diagonal(1, 1)), ((0, 1), (1, 0)))
        self.assertEqual(relevant_rows(Form(((10, 1), (1, 10)))), ((0, 1), (1, -1), (1, 0)))
        self.assertEqual(relevant_rows(Form(((MOST, 1), (1, MOST)))), ((0, 1), (1, -1), (1, 0)))
        self.assertEqual(relevant_rows(Form(((MOST, -1), (-1, MOST)))), ((0, 1), (1, 0), (1, 1)))

    def test_wrong_values(self):
        for form in FORMS:
            row = relevant_rows(form)[0]
            for wrong in WRONG + (list(row), row + (0,), row[:-1], (row,), (0,) * form.size, str(row), tuple(map(str, row)),
                                  tuple(bool(n) if n in (0, 1) else n for n in row), row[:-1] + (None,), Copy.first(form.size)):
                known = relevant_rows(form)
                right = type(wrong) is tuple and all(type(n) is int for n in wrong) and any(wrong) and normal(wrong) in known
                self.assertIs(is_relevant(form, wrong), right, wrong)


class Obtuse(unittest.TestCase):
    def check_basis(self, form, basis):
        size = form.size
        self.assertIs(type(basis), tuple)
        self.assertEqual(len(basis), size + 1)
        self.assertEqual([sum(numbers) for numbers in zip(*basis)], [0] * size)
        self.assertEqual(abs(det(basis[:-1])), 1)
        weights = {}
        for i, j in combinations(range(size + 1), 2):
            weights[i, j] = -pairing(form.table, basis[i], basis[j])
            self.assertGreaterEqual(weights[i, j], 0)
        self.assertIs(is_obtuse_basis(form, basis), True)
        found = obtuse_weights(form, basis)
        self.assertEqual(list(found.items()), sorted(weights.items()))
        return weights

    def test_16_2_bases(self):
        for form in few_letters(410, 20):
            basis = obtuse_basis(form)
            weights = self.check_basis(form, basis)
            self.assertIs(is_basis(form.size, basis[:-1]), True)
            for numbers in product(range(-2, 3), repeat=form.size):
                # The value at c[0] v[0] + c[1] v[1] + .., with and without a multiple of the last row.
                for entries in (numbers + (0,), numbers + (numbers[0] + 1,)):
                    row = tuple(sum(c * v for c, v in zip(entries, column)) for column in zip(*basis))
                    wanted = sum(w * (entries[i] - entries[j]) ** 2 for (i, j), w in weights.items())
                    self.assertEqual(form.value(row), wanted)

    def test_16_2_far_forms(self):
        chance = chance_of(411)
        for form in [PLANE, CUBE, BODY, FACED, Form.diagonal(1, MOST), Form.diagonal(1, 10 ** 30, MOST),
                     Form(some_table(chance, 2, 10 ** 29)), Form(some_table(chance, 3, 10 ** 28))]:
            far = form.led(far_matrix(chance, form.size, 60))
            self.check_basis(far, obtuse_basis(far))
            self.assertLess(max(abs(n) for row in obtuse_basis(far) for n in row), 10 ** 400)
            further = far.led(far_matrix(chance, form.size, 60))
            self.check_basis(further, obtuse_basis(further))

    def test_16_2_other_bases(self):
        # The rows in any order, all of them opposite, and others where a weight is 0.
        for form in few_letters(412, 6):
            basis = obtuse_basis(form)
            for order in ((1, 0) + tuple(range(2, form.size + 1)), tuple(range(form.size, -1, -1))):
                other = tuple(basis[place] for place in order)
                self.check_basis(form, other)
                self.check_basis(form, tuple(tuple(-n for n in row) for row in other))
        square = Form.diagonal(1, 1)
        for basis in (((1, 0), (0, 1), (-1, -1)), ((-1, 0), (0, 1), (1, -1)), ((1, 0), (0, -1), (-1, 1))):
            self.check_basis(square, basis)
        self.check_basis(CUBE, ((1, 0, 0), (-1, 1, 0), (0, -1, 1), (0, 0, -1)))

    def test_16_2_no_bases(self):
        for form in (PLANE, CUBE, BODY, FACED, Form(((5, 2), (2, 9)))):
            basis = obtuse_basis(form)
            for wrong in WRONG + (
                    (), list(basis), basis[:-1], basis + basis[:1], tuple(map(list, basis)), basis[:-1] + (None,), (basis,),
                    basis[:-1] + ((0,) * form.size,), tuple(tuple(2 * n for n in row) for row in basis), basis[0],
                    (tuple(-n for n in basis[0]),) + basis[1:], tuple(row + (0,) for row in basis), str(basis),
                    tuple(tuple(bool(n) if n in (0, 1) else n for n in row) for row in basis), Copy.first(form.size),
                    basis[:-1] + (tuple(n + 1 for n in basis[-1]),), ((0,) * form.size,) * (form.size + 1), {0: basis}):
                self.assertIs(is_obtuse_basis(form, wrong), False, wrong)
                self.assertIs(type(outcome(obtuse_weights, form, wrong)), InvalidRows)
        # The sum is 0, and all pairings are at most 0, but the rows are no basis.
        triple = ((1, 0), (0, 1), (-1, -1))
        self.assertIs(is_obtuse_basis(Form.diagonal(1, 1), tuple(tuple(3 * n for n in row) for row in triple)), False)
        self.assertIs(is_obtuse_basis(Form.diagonal(1, 1), ((1, 1), (-1, 1), (0, -2))), False)
        # One pairing above 0.
        self.assertIs(is_obtuse_basis(PLANE, triple), False)
        self.assertIs(is_obtuse_basis(Form(((MOST, 1), (1, MOST))), triple), False)
        self.assertIs(is_obtuse_basis(Form(((MOST, 0), (0, MOST))), triple), True)

    def test_16_2_long_integers(self):
        form = Form.diagonal(1, 1)
        shear = ((1, MOST), (0, 1))
        far = form.led(shear).led(shear)
        basis = obtuse_basis(far)
        self.assertGreater(max(abs(n) for row in basis for n in row), LONG)
        self.check_basis(far, basis)
        long = ((1, LONG), (0, 1), (-1, -1 - LONG))
        self.assertIs(is_obtuse_basis(form, long), False)
        self.assertIs(type(outcome(obtuse_weights, form, long)), InvalidRows)

    def test_16_3_relevant_rows(self):
        kinds = set()
        for form in few_letters(413, 20):
            basis = obtuse_basis(form)
            weights = obtuse_weights(form, basis)
            places = range(form.size + 1)
            found = set()
            for many in range(1, form.size + 1):
                for chosen in combinations(places, many):
                    rest = [place for place in places if place not in chosen]
                    row = tuple(sum(basis[place][k] for place in chosen) for k in range(form.size))
                    together = hang(chosen, weights) and hang(rest, weights)
                    self.assertIs(is_relevant(form, row), together)
                    if together:
                        found.add(normal(row))
            self.assertEqual(relevant_rows(form), tuple(sorted(found)))
            kinds.add((form.size, count_sides(form)))
        self.assertEqual(kinds, {(2, 4), (2, 6), (3, 6), (3, 8), (3, 12), (3, 14)})


def hang(places, weights):
    """Whether places hang together by the weights above 0."""
    reached = {places[0]}
    for _ in places:
        reached |= {b for a in reached for b in places if weights.get((min(a, b), max(a, b)), 0) > 0}
    return set(places) <= reached


class Corners(unittest.TestCase):
    def test_16_4_corners(self):
        for form in few_letters(420, 12):
            found = corners(form)
            self.assertIs(type(found), tuple)
            self.assertEqual(found, tuple(sorted(set(found))))
            for row, bottom in found:
                self.assertGreater(bottom, 0)
                self.assertTrue(all((Fraction(n, bottom) * bottom).denominator == 1 for n in row))
                self.assertFalse(any(bottom % k == 0 and all(n % k == 0 for n in row) for k in range(2, min(bottom, 99) + 1)))
            self.assertEqual({as_point(corner) for corner in found}, slow_corners(form))
            self.assertEqual({(tuple(-n for n in row), bottom) for row, bottom in found}, set(found))

    def test_16_4_how_many(self):
        chance = chance_of(421)
        for (walls, many), rows in KINDS.values():
            for _ in range(3):
                form = Form(sum_table([square_of(row) for row in rows], [chance.randint(1, 9) for _ in rows]))
                for other in (form, form.led(some_matrix(chance, 3, 4, 2)), form * 7):
                    self.assertEqual((count_sides(other), len(corners(other))), (walls, many))
        for form in few_letters(422, 20):
            if form.size == 2:
                self.assertEqual(len(corners(form)), count_sides(form))

    def test_16_4_distances(self):
        # As far from n + 1 or more rows in general position as from the zeros, and farther from all others.
        for form in few_letters(423, 4)[:16]:
            for corner in corners(form):
                point = as_point(corner)
                known = value(form.table, point)
                near = [row for row in product(range(-1, 2), repeat=form.size)]
                near += [row for base in relevant_rows(form) for row in (base, tuple(-n for n in base))]
                touched = []
                for row in set(near):
                    number = value(form.table, tuple(a - b for a, b in zip(point, row)))
                    self.assertGreaterEqual(number, known)
                    if number == known and any(row):
                        touched.append(row)
                self.assertEqual(slow_rank(touched), form.size)

    def test_led_corners(self):
        chance = chance_of(424)
        for form in few_letters(425, 4):
            for matrix in (some_matrix(chance, form.size, 3, 3), far_matrix(chance, form.size, 50)):
                led = form.led(matrix)
                back = inverse(matrix)
                self.assertEqual(corners(led), tuple(sorted((lead(back, row), bottom) for row, bottom in corners(form))))
                self.assertEqual(covering(led), covering(form))
            self.assertEqual(corners(form * 12), corners(form))

    def test_far_corners(self):
        for form in (Form.diagonal(1, MOST), Form.diagonal(1, 10 ** 30, MOST)):
            wanted = product((-1, 1), repeat=form.size)
            self.assertEqual(corners(form), tuple((row, 2) for row in sorted(wanted)))

    def test_16_5_covering(self):
        for form in few_letters(426, 12):
            found = covering(form)
            values = [value(form.table, as_point(corner)) for corner in corners(form)]
            self.assertEqual(Fraction(*found), max(values))
            self.assertEqual(found, (max(values).numerator, max(values).denominator))
            times, shifted = covering(form * 6), Fraction(*found) * 6
            self.assertEqual(Fraction(*times), shifted)

    def test_16_5_two_letters(self):
        for form in few_letters(427, 30):
            if form.size == 2:
                a, b, c = (form.value(row) for row in obtuse_basis(form))
                self.assertEqual(Fraction(*covering(form)), Fraction(a * b * c, 4 * form.determinant))

    def test_16_5_bounds(self):
        chance = chance_of(428)
        for form in few_letters(429, 30) + [PLANE * 3, BODY * 5, PLANE.led(some_matrix(chance, 2, 4, 3)), BODY.led(some_matrix(chance, 3, 4, 2))]:
            least = Fraction(4, 27) if form.size == 2 else Fraction(125, 1024)
            power, bound = Fraction(*covering(form)) ** form.size, least * form.determinant
            self.assertGreaterEqual(power, bound)
            best = PLANE if form.size == 2 else BODY
            first, second = form.cleared(), best.cleared()
            alike = first.determinant == second.determinant and len(least_rows(first)) == len(least_rows(second)) and (
                sorted(reduced(first)[0].table[i][i] for i in range(form.size)) == [second.table[0][0]] * form.size)
            self.assertEqual(power == bound, alike)

    def test_16_5_balls_cover(self):
        # Each point of a fine grid has a row so near.
        for form in (PLANE, BODY, Form(((3, 1), (1, 5)))):
            most, parts = Fraction(*covering(form)), 6 if form.size == 2 else 4
            rows = list(product(range(-2, 3), repeat=form.size))
            for numbers in product(range(parts), repeat=form.size):
                point = tuple(Fraction(n, parts) for n in numbers)
                self.assertLessEqual(min(value(form.table, tuple(a - b for a, b in zip(point, row))) for row in rows), most)


class Errors(unittest.TestCase):
    CALLS = ((relevant_rows, 0), (count_sides, 0), (is_relevant, 1), (obtuse_basis, 0), (is_obtuse_basis, 1), (obtuse_weights, 1),
             (corners, 0), (covering, 0))

    def test_wrong_forms(self):
        for wrong in WRONG + (PLANE.table, Copy.first(2), "form 2 1/1 2"):
            if isinstance(wrong, Form):
                continue
            for call, more in self.CALLS:
                for other in (None, (1, 0), PLANE):
                    self.assertIs(type(outcome(call, wrong, *(other,) * more)), InvalidForm)

    def test_four_letters(self):
        basis = unit(4) + ((-1, -1, -1, -1),)
        for form in (GRID, TWENTY_FOUR, FOURTH, GRID * MOST):
            for call in (obtuse_basis, corners, covering):
                self.assertIs(type(outcome(call, form)), InvalidOperation)
            for value in WRONG + (basis, basis[:-1]):
                self.assertIs(type(outcome(is_obtuse_basis, form, value)), InvalidOperation)
                self.assertIs(type(outcome(obtuse_weights, form, value)), InvalidOperation)
            self.assertIs(type(relevant_rows(form)), tuple)

    def test_equal_calls(self):
        for form in FORMS:
            before = str(form)
            self.assertEqual(relevant_rows(form), relevant_rows(form))
            if form.size < 4:
                self.assertEqual(obtuse_basis(form), obtuse_basis(form))
                self.assertEqual(corners(form), corners(form))
                first = obtuse_weights(form, obtuse_basis(form))
                first.clear()
                self.assertEqual(len(obtuse_weights(form, obtuse_basis(form))), 3 if form.size == 2 else 6)
            self.assertEqual(str(form), before)

    def test_speed(self):
        chance = chance_of(430)
        for form in (TWENTY_FOUR, GRID, FOURTH.adjoint, Form(some_table(chance, 4, 10 ** 28)), Form.diagonal(1, 1, 1, 10 ** 59),
                     Form.diagonal(1, 10 ** 20, 10 ** 40, MOST), Form(((10 ** 15, 4 * 10 ** 14 + 1, 10 ** 14 + 3, 7),
                      (4 * 10 ** 14 + 1, 10 ** 30, 3 * 10 ** 14, 10 ** 29 + 9), (10 ** 14 + 3, 3 * 10 ** 14, 10 ** 45, 4 * 10 ** 44 + 1),
                      (7, 10 ** 29 + 9, 4 * 10 ** 44 + 1, 10 ** 59)))):
            for other in (form, form.led(far_matrix(chance, 4, 57))):
                self.assertLess(calls_of(relevant_rows, other), 6000)


class Untrue(unittest.TestCase):
    def test_16_6_the_densest_form(self):
        # FACED * 4 and BODY * 2 have 256 and 128; the covering to the power 3, divided by the determinant, tells it.
        self.assertTrue(is_denser(FACED, BODY))
        one, other = (Fraction(*covering(form)) ** 3 / form.determinant for form in (FACED, BODY))
        self.assertGreater(one, other)

    def test_16_6_equally_many_walls(self):
        one, other = (Form(sum_table([square_of(row) for row in KINDS[kind][1]])) for kind in (5, 6))
        self.assertEqual((count_sides(one), count_sides(other)), (12, 12))
        self.assertNotEqual(len(KINDS[5][1]), len(KINDS[6][1]))
        self.assertNotEqual(len(corners(one)), len(corners(other)))

    def test_16_6_values_at_corners(self):
        values = {value(FACED.table, as_point(corner)) for corner in corners(FACED)}
        self.assertGreater(len(values), 1)
        self.assertTrue(all(is_normal(row) for row in relevant_rows(FACED)))
        self.assertEqual(transposed(unit(3)), unit(3))


if __name__ == "__main__":
    unittest.main()
