"""The inner works whose tables and short cuts are checked here against the plainest ways."""

import unittest
from itertools import combinations, product

from ballgrids.base.echelons import kernel_of, last_of_kernel, mix_of
from ballgrids.base.lines import adjugate, determinant_of, multiplied
from ballgrids.cone.told import NAMES, RAYS, TABLES
from ballgrids.cone.walls import WEIGHT_TABLES, step_over, walls_of
from ballgrids.cone.ways import WAYS
from ballgrids.cone.weighing import FRAME_PLACES, height_above, levelled, some_weights, wall_lowest
from ballgrids.form.algebra import image, is_positive_table, squares_sum, undone, value_at
from ballgrids.form.forms import Form
from ballgrids.short.least import DOUBLE_ROWS, shortest
from ballgrids.short.reducing import first_unreduced, is_reduced_table, reduced_lattice
from ballgrids.short.rows import least_rows
from ballgrids.short.signs import SIGN_ROWS, doubled_pairings, sign_values
from ballgrids.span.spans import rank_of_rows, rank_of_squares
from ballgrids.span.uppers import last_zero_table, square_uppers, uppers_of, zero_tables
from ballgrids.weight.weights import DETERMINANTS, critical_forms
from tests.helper import (
    FOURTH, GRID, TWENTY_FOUR, adjoint, chance_of, det, inverse, is_normal, lead, led, many_forms, normal, product_sum,
    rows_below, slow_rank, slow_reduced, some_matrix, some_table, square_of, sum_table, times, transposed, uppers, value)


class Algebra(unittest.TestCase):
    def test_lines(self):
        chance = chance_of(901)
        for size in (2, 3, 4):
            for most in (1, 9, 10 ** 30):
                for _ in range(20):
                    one, other = (
                        tuple(tuple(chance.randint(-most, most) for _ in range(size)) for _ in range(size)) for _ in range(2))
                    row = tuple(chance.randint(-most, most) for _ in range(size))
                    self.assertEqual(determinant_of(one), det(one))
                    self.assertEqual(adjugate(one), adjoint(transposed(one)))
                    self.assertEqual(multiplied(one, other), times(one, other))
                    self.assertEqual(image(one, row), lead(one, row))
                    table = times(one, transposed(one))
                    self.assertEqual(value_at(table, row), value(table, row))
                    matrix = some_matrix(chance, size, 4, most)
                    self.assertEqual(undone(matrix), inverse(matrix))
        self.assertEqual((adjugate(((7,),)), adjugate(())), (((1,),), ()))

    def test_positive_tables(self):
        chance = chance_of(902)
        seen = set()
        for size in (2, 3, 4):
            for _ in range(150):
                lines = [[chance.randint(-2, 2) for _ in range(size)] for _ in range(size)]
                table = tuple(tuple(lines[i][j] + lines[j][i] + (i == j) * chance.randint(0, 6) for j in range(size)) for i in range(size))
                minors = [det([row[:k] for row in table[:k]]) for k in range(1, size + 1)]
                self.assertIs(is_positive_table(table), min(minors) > 0)
                seen.add((size, min(minors) > 0, 0 in minors))
        self.assertGreaterEqual(len(seen), 8)

    def test_sums_of_squares(self):
        chance = chance_of(903)
        for size in (2, 3, 4):
            for many in (1, 5, 12):
                rows = [tuple(chance.randint(-9, 9) for _ in range(size)) for _ in range(many)]
                weights = [chance.randint(-9, 9) for _ in range(many)]
                self.assertEqual(squares_sum(rows, weights), sum_table([square_of(row) for row in rows], weights))

    def test_mixes_and_kernels(self):
        chance = chance_of(904)
        for _ in range(150):
            width, many = chance.randint(2, 6), chance.randint(1, 4)
            lines = tuple(tuple(chance.randint(-2, 2) for _ in range(width)) for _ in range(many))
            kernel = kernel_of(lines)
            self.assertEqual(last_of_kernel(lines), kernel[-1] if kernel else None)
            if slow_rank(lines) == many:
                factors = [chance.randint(-3, 3) for _ in range(many)]
                bottom = chance.randint(1, 3)
                line = tuple(sum(f * n for f, n in zip(factors, column)) for column in zip(*lines))
                if all(n % bottom == 0 for n in line):
                    line = tuple(n // bottom for n in line)
                scale, found = mix_of(lines, line)
                self.assertGreater(scale, 0)
                self.assertEqual(
                    tuple(scale * n for n in line), tuple(sum(f * n for f, n in zip(found, column)) for column in zip(*lines)))
                other = tuple(chance.randint(-9, 9) for _ in range(width))
                self.assertEqual(mix_of(lines, other) is None, slow_rank(lines + (other,)) > many)

    def test_last_zero_tables(self):
        for form in many_forms(905, 20):
            rows = least_rows(form)
            tables = zero_tables(rows)
            self.assertEqual(last_zero_table(rows), tables[-1] if tables else None)
            self.assertEqual([list(uppers_of(table)) for table in tables], [uppers(table) for table in tables])
            self.assertEqual([list(square_uppers(row)) for row in rows], [uppers(square_of(row)) for row in rows])


class Signs(unittest.TestCase):
    def test_rows(self):
        for size, rows in SIGN_ROWS.items():
            wanted = sorted(row for row in product((-1, 0, 1), repeat=size) if any(row) and is_normal(row))
            self.assertEqual(sorted(rows), wanted)
        doubles = sorted(row for row in product((-2, -1, 1, 2), repeat=4) if is_normal(row) and sorted(map(abs, row)) == [1, 1, 1, 2])
        self.assertEqual(sorted(DOUBLE_ROWS), doubles)

    def test_values(self):
        chance = chance_of(906)
        for size in (2, 3, 4):
            for _ in range(10):
                table = some_table(chance, size, 9)
                for many in range(1, size + 1):
                    values = sign_values(table, many)
                    rows = SIGN_ROWS[size][:len(values)]
                    self.assertEqual(values, [value(table, row) for row in rows])
                    self.assertTrue(all(not any(row[many:]) for row in rows))
                    self.assertEqual(len(values), (3 ** many - 1) // 2)
                    if many < size:
                        last = tuple(int(k == many) for k in range(size))
                        both = [value(table, tuple(a + b for a, b in zip(row, last))) for row in rows]
                        self.assertEqual(
                            [number + table[many][many] + told for number, told in zip(values, doubled_pairings(table, many))], both)


class Least(unittest.TestCase):
    def test_all_bases_of_d4(self):
        # Bases of least rows: all of them tell reduced forms, and in some of them a least row has the number 2.
        rays, twos = RAYS["D4"], 0
        for choice in combinations(rays, 4):
            if abs(det(choice)) != 1:
                continue
            for signs in ((1, 1, 1), (1, -1, 1), (-1, 1, -1), (-1, -1, 1)):
                rows = choice[:1] + tuple(tuple(s * n for n in row) for s, row in zip(signs, choice[1:]))
                matrix = transposed(rows)
                table = led(TABLES["D4"], matrix)
                self.assertTrue(is_reduced_table(table))
                back = inverse(matrix)
                found = tuple(sorted(normal(lead(back, ray)) for ray in rays))
                self.assertEqual(least_rows(Form(table)), found)
                twos += any(2 in row or -2 in row for row in found)
        self.assertGreater(twos, 50)

    def test_reduced_forms(self):
        for form in many_forms(907, 60, 4):
            table, basis = reduced_lattice(form.table)
            self.assertTrue(slow_reduced(table))
            self.assertEqual(table, times(basis, times(form.table, transposed(basis))))
            self.assertEqual(is_reduced_table(form.table), slow_reduced(form.table))
            self.assertEqual(first_unreduced(table), form.size)
            least, rows = shortest(form.table)
            known = rows_below(table, table[0][0])
            self.assertEqual({number for number, _ in known}, {least})
            self.assertEqual(rows, sorted(normal(lead(transposed(basis), row)) for _, row in known))

    def test_rank_by_the_number_of_rows(self):
        # Also where all rays of D4 but some of one frame are least rows, and for critical forms.
        for form in many_forms(908, 40, 2) + [form for size in (2, 3, 4) for form in critical_forms(size)]:
            rows = least_rows(form)
            self.assertEqual(rank_of_squares(form), rank_of_rows(form.size, rows))


class Weights(unittest.TestCase):
    def test_weights_by_tables(self):
        chance = chance_of(909)
        for name in NAMES:
            for _ in range(20):
                table = some_table(chance, len(TABLES[name]), 9)
                found = some_weights(name, table)
                self.assertEqual(found, tuple(product_sum(told, table) // 2 for told in WEIGHT_TABLES[name]))
                self.assertEqual(sum_table([square_of(ray) for ray in RAYS[name]], found), table)
                scale, weights = levelled(name, found)
                self.assertEqual(sum(weights), scale * sum(found))

    def test_lowest_walls(self):
        chance = chance_of(910)
        for name in NAMES:
            walls = walls_of(name)
            for _ in range(50):
                weights = tuple(chance.randint(-2, 2) for _ in RAYS[name])
                height, wall = min((height_above(weights, told), told) for told in walls)
                self.assertEqual((height_above(weights, wall_lowest(name, weights)), wall_lowest(name, weights)), (height, wall))
            self.assertEqual([step_over(name, wall) for wall in walls], list(WAYS[name]))
        self.assertEqual(sorted(sum(FRAME_PLACES, ())), list(range(12)))

    def test_critical_determinants(self):
        for size in (2, 3, 4):
            self.assertEqual(DETERMINANTS[size], tuple(form.determinant for form in critical_forms(size)))
            self.assertEqual(len(set(DETERMINANTS[size])), len(DETERMINANTS[size]))

    def test_told_forms(self):
        for form in (GRID, FOURTH, TWENTY_FOUR):
            self.assertEqual(least_rows(form), tuple(row for _, row in rows_below(form.table, form.table[0][0])))


if __name__ == "__main__":
    unittest.main()
