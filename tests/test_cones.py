"""Cones of copies, their walls, and level weights [0.15], [0.16], [9.1] to [9.4]."""

import unittest
from fractions import Fraction

from ballgrids.cone.cones import (
    are_beside, behind, crossed, is_in_cone, level_weights, wall_rows, wall_tables, weighted)
from ballgrids.cone.told import NAMES, Copy, frames, rays_of, told_form
from ballgrids.cone.ways import WAYS
from ballgrids.errors import InvalidCopy, InvalidOperation, InvalidTable
from ballgrids.form.forms import Form
from tests.helper import (
    LONG, MOST, WRONG, chance_of, far_matrix, inverse, led, multiple, outcome, product_sum, ratio, solved, some_matrix,
    square_of, sum_table, times, unit, uppers, value)

SIZE = {"A2": 2, "A3": 3, "A4": 4, "D4": 4}
WALLS = {"A2": 3, "A3": 6, "A4": 10, "D4": 64}
PLACES = [[rays_of("D4").index(ray) for ray in frame] for frame in frames()]


def told(name):
    return Copy(name, unit(SIZE[name]))


def some_copies(seed, count, steps=4, most=2):
    chance = chance_of(seed)
    made = [told(name) for name in NAMES]
    for _ in range(count):
        made.extend(Copy(name, some_matrix(chance, SIZE[name], steps, most)) for name in NAMES)
    return made


def some_table_of(chance, size, most):
    lines = [[chance.randint(-most, most) for _ in range(size)] for _ in range(size)]
    return tuple(tuple(lines[min(i, j)][max(i, j)] for j in range(size)) for i in range(size))


def moved(table, matrix):
    return times(matrix, times(table, tuple(zip(*matrix))))


def choices_of_walls(name):
    if name != "D4":
        return [(place,) for place in range(WALLS[name])]
    return [(a, b, c) for a in PLACES[0] for b in PLACES[1] for c in PLACES[2]]


def slow_wall_table(copy, left_out):
    """The table that is 2 at the rays that are left out, and 0 at the others, by solving for it."""
    size = copy.size
    lines = [[(1 if i == j else 2) * ray[i] * ray[j] for i in range(size) for j in range(i, size)] for ray in copy.rays]
    entries, only = solved(lines, [2 * (place in left_out) for place in range(len(copy))])
    assert only
    upper = iter(int(entry) if entry.denominator == 1 else entry for entry in entries)
    numbers = {(i, j): next(upper) for i in range(size) for j in range(i, size)}
    return tuple(tuple(numbers[min(i, j), max(i, j)] for j in range(size)) for i in range(size))


def slow_level_weights(copy, table):
    """The level weights as fractions: any weights by solving, moved from frame to frame."""
    lines = list(zip(*[uppers(square_of(ray)) for ray in copy.rays]))
    weights, _ = solved(lines, uppers(table))
    if copy.name == "D4":
        leasts = [min(weights[place] for place in frame) for frame in PLACES]
        middle = sum(leasts) / 3
        for frame, least in zip(PLACES, leasts):
            for place in frame:
                weights[place] += middle - least
    return weights


class Walls(unittest.TestCase):
    def test_9_1_wall_tables(self):
        for copy in some_copies(71, 2):
            tables = wall_tables(copy)
            self.assertEqual(len(tables), WALLS[copy.name])
            self.assertEqual(tables, tuple(sorted(tables)))
            self.assertIs(type(tables), tuple)
            self.assertEqual(tables, tuple(sorted(slow_wall_table(copy, wall) for wall in choices_of_walls(copy.name))))

    def test_9_1_values(self):
        for copy in some_copies(72, 4):
            seen = set()
            for table in wall_tables(copy):
                values = [value(table, ray) for ray in copy.rays]
                self.assertEqual(set(values), {0, 2})
                left_out = tuple(place for place, number in enumerate(values) if number)
                if copy.name == "D4":
                    self.assertEqual([sum(place in frame for place in left_out) for frame in PLACES], [1, 1, 1])
                else:
                    self.assertEqual(len(left_out), 1)
                seen.add(left_out)
                self.assertEqual(wall_rows(copy, table),
                                 tuple(sorted(ray for ray, number in zip(copy.rays, values) if number == 0)))
            self.assertEqual(len(seen), WALLS[copy.name])

    def test_led_copies(self):
        chance = chance_of(73)
        for name in NAMES:
            copy, matrix = told(name), some_matrix(chance, SIZE[name], 5, 3)
            other = copy.led(matrix)
            self.assertEqual(sorted(wall_tables(other)), sorted(led(table, inverse(matrix)) for table in wall_tables(copy)))

    def test_far_copies(self):
        chance = chance_of(74)
        for name in NAMES:
            copy = Copy(name, far_matrix(chance, SIZE[name], 60))
            further = copy.led(far_matrix(chance, SIZE[name], 60)).led(far_matrix(chance, SIZE[name], 60))
            for far in (copy, further):
                tables = wall_tables(far)
                self.assertEqual(len(tables), WALLS[name])
                long_ones = 0
                for table in tables[::1 if name == "A2" else 3]:
                    self.assertEqual(sorted({value(table, ray) for ray in far.rays}), [0, 2])
                    # A table with an integer of more than sixty digits is none that can be passed [0.1].
                    kind = InvalidTable if max(abs(n) for row in table for n in row) >= LONG else Copy
                    self.assertIs(type(outcome(behind, far, table)), kind)
                    self.assertIs(type(outcome(wall_rows, far, table)), tuple if kind is Copy else kind)
                    long_ones += kind is InvalidTable
                self.assertGreater(long_ones, 0)


class Behind(unittest.TestCase):
    def test_9_3_copies_behind(self):
        for copy in some_copies(75, 3):
            times_taken = 2 if copy.name == "A2" else 1
            for table in wall_tables(copy):
                other = behind(copy, table)
                self.assertIs(type(other), Copy)
                self.assertEqual(other.form.table, sum_table([copy.form.table, table], [1, times_taken]))
                self.assertTrue(set(wall_rows(copy, table)) <= set(other.rows))
                self.assertFalse(other == copy)
                self.assertIs(are_beside(copy, other), True)
                self.assertIs(are_beside(other, copy), True)

    def test_9_3_names(self):
        for copy in some_copies(76, 2):
            counts = {}
            for table in wall_tables(copy):
                name = behind(copy, table).name
                counts[name] = counts.get(name, 0) + 1
                if copy.name == "D4":
                    self.assertEqual(name, "D4" if self.is_sum(copy, table) else "A4")
            self.assertEqual(counts, {"A2": {"A2": 3}, "A3": {"A3": 6}, "A4": {"D4": 10}, "D4": {"D4": 16, "A4": 48}}[copy.name])

    def is_sum(self, copy, table):
        """Whether one of the rays that are left out is the sum or the difference of the two others."""
        a, b, c = [ray for ray in copy.rays if value(table, ray)]
        sums = [tuple(x + y for x, y in zip(a, b)), tuple(x - y for x, y in zip(a, b))]
        return any(told_sum in (c, tuple(-n for n in c)) for told_sum in sums)

    def test_9_3_just_one_copy(self):
        # A wall and the copy behind it are told by the rows of both: the way back leads to where it began.
        for copy in some_copies(77, 1):
            for table in wall_tables(copy)[::3]:
                other = behind(copy, table)
                back = [told_table for told_table in wall_tables(other) if behind(other, told_table) == copy]
                self.assertEqual(len(back), 1)
                self.assertTrue(set(wall_rows(other, back[0])) == set(wall_rows(copy, table)))

    def test_every_told_way(self):
        for name in NAMES:
            self.assertEqual(len(WAYS[name]), WALLS[name])
            for (other, matrix), wall in zip(WAYS[name], choices_of_walls(name)):
                made = Copy(other, matrix)
                left = [ray for place, ray in enumerate(rays_of(name)) if place not in wall]
                self.assertTrue(all(ray in made for ray in left))
                self.assertFalse(made == told(name))

    def test_behind_with_long_matrices(self):
        chance = chance_of(78)
        for name in NAMES:
            copy = Copy(name, far_matrix(chance, SIZE[name], 12))
            passed = 0
            for table in wall_tables(copy):
                if max(abs(n) for row in table for n in row) < LONG:
                    other = behind(copy, table)
                    self.assertTrue(set(wall_rows(copy, table)) <= set(other.rows))
                    self.assertTrue(are_beside(other, copy))
                    passed += 1
            self.assertEqual(passed, WALLS[name])

    def test_are_beside(self):
        first = Copy.first(2)
        near = [behind(first, table) for table in wall_tables(first)]
        far = [behind(copy, table) for copy in near for table in wall_tables(copy)]
        for copy in far:
            self.assertIs(are_beside(first, copy), False)
        self.assertIs(are_beside(first, first), False)
        for one in near:
            for other in near:
                self.assertIs(are_beside(one, other), False)
        for name in ("A3", "A4", "D4"):
            copy = told(name)
            self.assertIs(are_beside(copy, copy), False)
            two = behind(behind(copy, wall_tables(copy)[0]), wall_tables(behind(copy, wall_tables(copy)[0]))[1])
            self.assertIs(are_beside(copy, two), two in [behind(copy, table) for table in wall_tables(copy)])
        chance = chance_of(79)
        for name in NAMES:
            for _ in range(10):
                one, other = told(name), Copy(name, some_matrix(chance, SIZE[name], 2, 1))
                expected = any(behind(one, table) == other for table in wall_tables(one))
                self.assertIs(are_beside(one, other), expected)
        shift = far_matrix(chance, 4, 60)
        one = told("D4").led(shift)
        for table in wall_tables(told("D4"))[::9]:
            self.assertTrue(are_beside(one, behind(told("D4"), table).led(shift)))
            self.assertTrue(are_beside(behind(told("D4"), table).led(shift), one))


class Weights(unittest.TestCase):
    def test_9_4_level_weights(self):
        chance = chance_of(80)
        for copy in some_copies(81, 3):
            for most in (1, 9, MOST):
                table = some_table_of(chance, copy.size, most)
                scale, weights = level_weights(copy, table)
                expected = slow_level_weights(copy, table)
                self.assertEqual([Fraction(weight, scale) for weight in weights], expected)
                self.assertIs(type(weights), tuple)
                self.assertEqual(multiple(table, scale), sum_table([square_of(ray) for ray in copy.rays], weights))
                for less in range(1, scale):
                    self.assertTrue(any((weight * less).denominator > 1 for weight in expected))

    def test_scales(self):
        scales = {name: set() for name in NAMES}
        chance = chance_of(82)
        for copy in some_copies(83, 10):
            scales[copy.name].add(level_weights(copy, some_table_of(chance, copy.size, 9))[0])
        self.assertEqual(scales, {"A2": {1}, "A3": {1}, "A4": {1}, "D4": {1, 3}})

    def test_0_16_moved_weights(self):
        chance = chance_of(84)
        for _ in range(10):
            copy = Copy("D4", some_matrix(chance, 4, 3, 2))
            weights = [chance.randint(-5, 9) for _ in range(12)]
            shifts = [chance.randint(-5, 5), chance.randint(-5, 5)]
            shifts.append(-sum(shifts))
            other = list(weights)
            for frame, shift in zip(PLACES, shifts):
                for place in frame:
                    other[place] += shift
            table = weighted(copy, tuple(weights))
            self.assertEqual(weighted(copy, tuple(other)), table)
            scale, level = level_weights(copy, table)
            leasts = [min(level[place] for place in frame) for frame in PLACES]
            self.assertEqual(len(set(leasts)), 1)
            total = sum(min(weights[place] for place in frame) for frame in PLACES)
            self.assertEqual(Fraction(leasts[0], scale), Fraction(total, 3))
            self.assertIs(is_in_cone(copy, table), total >= 0)

    def test_weighted(self):
        chance = chance_of(85)
        for copy in some_copies(86, 2):
            weights = tuple(chance.randint(-9, 9) for _ in range(len(copy)))
            table = weighted(copy, weights)
            self.assertEqual(table, sum_table([square_of(ray) for ray in copy.rays], weights))
            self.assertIs(type(table), tuple)
            if copy.name != "D4":
                self.assertEqual(level_weights(copy, table), (1, weights))
            self.assertEqual(weighted(copy, (MOST,) * len(copy)), multiple(weighted(copy, (1,) * len(copy)), MOST))
            self.assertEqual(weighted(copy, (0,) * len(copy)), multiple(unit(copy.size), 0))
        copy = Copy("A2", ((0, 1), (1, 0)))
        self.assertEqual(weighted(copy, (1, 0, 0)), ((1, 0), (0, 0)))
        self.assertEqual(level_weights(copy, ((5, 0), (0, 7))), (1, (5, 0, 7)))


class Cones(unittest.TestCase):
    def tables(self, copy, chance):
        """Tables inside a cone, on its walls and outside."""
        many = len(copy)
        for _ in range(4):
            yield weighted(copy, tuple(chance.randint(1, 5) for _ in range(many)))
            yield weighted(copy, tuple(chance.choice((0, 0, 1, 2)) for _ in range(many)))
            yield weighted(copy, tuple(chance.choice((-1, 0, 1, 1, 2)) for _ in range(many)))
            yield some_table_of(chance, copy.size, 3)
        yield copy.form.table
        yield copy.form.adjoint.table
        yield multiple(unit(copy.size), 0)

    def test_9_2_in_the_cone(self):
        chance = chance_of(87)
        seen = set()
        for copy in some_copies(88, 3):
            tables = wall_tables(copy)
            for table in self.tables(copy, chance):
                made = [product_sum(wall, table) for wall in tables]
                inside = min(made) >= 0
                self.assertIs(is_in_cone(copy, table), inside)
                self.assertEqual(inside, min(level_weights(copy, table)[1]) >= 0)
                self.assertEqual(crossed(copy, table), tuple(wall for wall, number in zip(tables, made) if number < 0))
                seen.add((copy.name, inside, 0 in made))
        self.assertEqual(len(seen), 16)

    def test_0_15_weights_of_at_least_0(self):
        chance = chance_of(89)
        for copy in some_copies(90, 2):
            table = weighted(copy, tuple(chance.randint(0, 3) for _ in range(len(copy))))
            self.assertIs(is_in_cone(copy, table), True)
            self.assertEqual(crossed(copy, table), ())
            moved_copy = copy.led(unit(copy.size))
            self.assertTrue(is_in_cone(moved_copy, table))

    def test_led_cones(self):
        chance = chance_of(91)
        for name in NAMES:
            matrix = some_matrix(chance, SIZE[name], 4, 2)
            for table in self.tables(told(name), chance):
                self.assertIs(is_in_cone(told(name), table), is_in_cone(Copy(name, matrix), moved(table, matrix)))
                self.assertEqual(level_weights(told(name), table), level_weights(Copy(name, matrix), moved(table, matrix)))

    def test_long_integers(self):
        chance = chance_of(92)
        for name in NAMES:
            copy = Copy(name, far_matrix(chance, SIZE[name], 60))
            table = some_table_of(chance, copy.size, MOST)
            scale, weights = level_weights(copy, table)
            self.assertEqual(multiple(table, scale), sum_table([square_of(ray) for ray in copy.rays], weights))
            self.assertIs(is_in_cone(copy, table), min(weights) >= 0)
            self.assertEqual(len(crossed(copy, table)) > 0, min(weights) < 0)
            positive = weighted(copy, (1,) * len(copy))
            self.assertEqual(level_weights(told(name), moved(positive, inverse(copy.matrix)))[1], (1,) * len(copy))

    def test_the_wall_between(self):
        # A table on a wall lies in both cones, and a little beyond it in that of the copy behind.
        for copy in some_copies(93, 1):
            for table in wall_tables(copy)[::5]:
                other = behind(copy, table)
                rows = wall_rows(copy, table)
                middle = sum_table([square_of(row) for row in rows])
                self.assertTrue(is_in_cone(copy, middle) and is_in_cone(other, middle))
                new = [row for row in other.rows if row not in rows]
                beyond = sum_table([multiple(middle, 100)] + [square_of(row) for row in new])
                self.assertTrue(is_in_cone(other, beyond))
                self.assertFalse(is_in_cone(copy, beyond))
                self.assertEqual(crossed(copy, beyond), (table,))


class Errors(unittest.TestCase):
    def check(self, call, arguments, kind):
        self.assertIs(type(outcome(call, *arguments)), kind, (call, arguments))

    def test_wrong_copies(self):
        for wrong in WRONG + ("A2", Form.diagonal(1, 1), Copy.first(2).rows, Copy.first(2).form):
            self.check(wall_tables, (wrong,), InvalidCopy)
            for call in (wall_rows, behind, level_weights, is_in_cone, crossed, weighted, are_beside):
                for other in (None, ((0, -1), (-1, 0)), (1, 1, 1), Copy.first(2)):
                    self.check(call, (wrong, other), InvalidCopy)
            self.check(are_beside, (Copy.first(2), wrong), InvalidCopy)
            self.check(are_beside, (Copy.first(3), wrong), InvalidCopy)

    def test_unlike_sizes(self):
        self.check(are_beside, (Copy.first(2), Copy.first(3)), InvalidOperation)
        self.check(are_beside, (told("D4"), Copy.first(3)), InvalidOperation)
        self.assertIs(are_beside(told("D4"), told("A4")), True)

    def test_wrong_tables(self):
        for name in NAMES:
            size = SIZE[name]
            wrong_ones = list(WRONG) + [unit(other) for other in (2, 3, 4) if other != size] + [
                [list(row) for row in unit(size)], ((True,) + (0,) * (size - 1),) + unit(size)[1:],
                ((LONG,) + (0,) * (size - 1),) + unit(size)[1:], ((0, 1) + (0,) * (size - 2),) + ((0,) * size,) * (size - 1)]
            for wrong in wrong_ones:
                for call in (wall_rows, behind, level_weights, is_in_cone, crossed):
                    self.check(call, (told(name), wrong), InvalidTable)

    def test_no_wall_tables(self):
        for copy in some_copies(94, 2):
            tables = wall_tables(copy)
            others = [multiple(tables[0], 2), multiple(tables[0], -1), multiple(tables[0], 0), sum_table(tables[:2]),
                      copy.form.table, unit(copy.size), sum_table([tables[0], copy.form.table])]
            others += [table for table in wall_tables(told(copy.name)) if table not in tables]
            for table in others:
                if table not in tables:
                    self.check(wall_rows, (copy, table), InvalidOperation)
                    self.check(behind, (copy, table), InvalidOperation)

    def test_tables_with_other_rays_left_out(self):
        # Two rays of one frame, and rays of two frames only.
        copy = told("D4")
        for left_out in ((0, 1, 2), (0, 1, 6), (2, 5, 3), (0,), (0, 2)):
            lines = [[(1 if i == j else 2) * ray[i] * ray[j] for i in range(4) for j in range(i, 4)] for ray in copy.rays]
            self.assertIsNone(solved(lines, [2 * (place in left_out) for place in range(12)])[0])

    def test_wrong_weights(self):
        for copy in some_copies(95, 0):
            many = len(copy)
            for wrong in WRONG + ((1,) * (many - 1), (1,) * (many + 1), [1] * many, (1,) * (many - 1) + (True,),
                                  (1,) * (many - 1) + (None,), (1,) * (many - 1) + (LONG,), "1" * many, copy):
                self.check(weighted, (copy, wrong), InvalidOperation)

    def test_nothing_changes(self):
        for copy in some_copies(96, 0):
            before = (copy.name, copy.matrix, copy.rays, copy.rows, copy.form.table)
            table = wall_tables(copy)[0]
            for call in (wall_rows, level_weights, is_in_cone, crossed):
                self.assertEqual(call(copy, table), call(copy, table))
            one, other = behind(copy, table), behind(copy, table)
            self.assertEqual((one.name, one.matrix), (other.name, other.matrix))
            self.assertEqual(wall_tables(copy), wall_tables(copy))
            self.assertEqual((copy.name, copy.matrix, copy.rays, copy.rows, copy.form.table), before)


class Sums(unittest.TestCase):
    def test_a_wall_table_and_a_table(self):
        # H * T is twice the sum of the weights at the rays that are left out.
        chance = chance_of(97)
        for copy in some_copies(98, 1):
            table = some_table_of(chance, copy.size, 5)
            scale, weights = level_weights(copy, table)
            for wall in wall_tables(copy):
                left_out = [place for place, ray in enumerate(copy.rays) if value(wall, ray)]
                made = Fraction(2 * sum(weights[place] for place in left_out), scale)
                self.assertEqual(ratio(made), (product_sum(wall, table), 1))

    def test_the_form_and_the_weights(self):
        # The form of a copy and a table, together, make twice the sum of the weights [13.1].
        chance = chance_of(99)
        for copy in some_copies(100, 1):
            table = some_table_of(chance, copy.size, 5)
            scale, weights = level_weights(copy, table)
            self.assertEqual(scale * product_sum(copy.form.table, table), 2 * sum(weights))
            self.assertEqual(told_form(copy.name).determinant, copy.form.determinant)
