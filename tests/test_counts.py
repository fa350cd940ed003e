"""Counts of rows and of faces [17.1] to [17.4]."""

import unittest
from itertools import combinations

from ballgrids.alike.alikes import are_alike, first_unlike
from ballgrids.cone.cones import behind, wall_tables
from ballgrids.cone.told import NAMES, Copy
from ballgrids.count.counts import (
    COUNTED, MAX_COUNTED, count_about, count_by_divisors, count_in, counted_form, each_above, each_count)
from ballgrids.errors import InvalidNumber, InvalidOperation, UnknownName
from ballgrids.face.classes import face_marks, face_with, keepers_by_mark
from ballgrids.face.faces import each_face, is_face, mark_of
from ballgrids.form.forms import Form
from ballgrids.short.rows import count_values
from tests.helper import LONG, MOST, PLANE, TWENTY_FOUR, WRONG, calls_of, outcome, rows_below, unit

WRONG_NAMES = WRONG + ("A3", "A4", "Z3", "z2", "Z2 ", "", "E8")


def slow_count(name, number):
    """The rule of [17.2] in the most direct way."""
    if number == 0:
        return 1
    divisors = [d for d in range(1, number + 1) if number % d == 0]

    def leaving(remainder, modulus):
        return sum(d % modulus == remainder for d in divisors)

    return {
        "A2": lambda: 6 * (leaving(1, 3) - leaving(2, 3)), "Z2": lambda: 4 * (leaving(1, 4) - leaving(3, 4)),
        "D4": lambda: 24 * sum(d for d in divisors if d % 2), "Z4": lambda: 8 * sum(d for d in divisors if d % 4)}[name]()


class Rows(unittest.TestCase):
    def test_17_1_forms(self):
        self.assertEqual(counted_form("A2"), PLANE)
        self.assertEqual(counted_form("D4"), TWENTY_FOUR)
        self.assertEqual(counted_form("Z2"), Form.diagonal(1, 1))
        self.assertEqual(counted_form("Z4"), Form.diagonal(1, 1, 1, 1))
        self.assertEqual((COUNTED, MAX_COUNTED), (("A2", "D4", "Z2", "Z4"), 10 ** 6))

    def test_17_2_rows_that_are_found(self):
        for name in COUNTED:
            step = 2 if name in ("A2", "D4") else 1
            most = 100 if len(counted_form(name)) == 2 else 24
            found = count_values(counted_form(name), most)
            self.assertEqual([count_by_divisors(name, k) for k in range(most // step + 1)], list(found[::step]))
            rows = rows_below(counted_form(name).table, 5 * step)
            for k in range(1, 6):
                self.assertEqual(count_by_divisors(name, k), 2 * sum(number == k * step for number, _ in rows))

    def test_17_2_divisors(self):
        for name in COUNTED:
            for number in list(range(400)) + [720, 1024, 2187, 4999, 5040, 9973]:
                self.assertEqual(count_by_divisors(name, number), slow_count(name, number))

    def test_bounds(self):
        self.assertEqual(count_by_divisors("Z4", 10 ** 6), 468744)
        for name in COUNTED:
            self.assertEqual(count_by_divisors(name, 0), 1)
            self.assertIs(type(count_by_divisors(name, 10 ** 6)), int)
            self.assertEqual(count_by_divisors(name, 10 ** 6), slow_count(name, 10 ** 6))
            self.assertEqual(count_by_divisors(name, 999983), slow_count(name, 999983))
            for wrong in (10 ** 6 + 1, -1, MOST, LONG):
                error = outcome(count_by_divisors, name, wrong)
                self.assertTrue(type(error) is InvalidNumber and error.given == wrong)

    def test_17_1_each_count(self):
        for name in COUNTED:
            made = each_count(name)
            self.assertEqual([next(made) for _ in range(300)], [count_by_divisors(name, k) for k in range(300)])
            other = each_count(name)
            self.assertEqual([next(other), next(other)], [1, count_by_divisors(name, 1)])

    def test_errors(self):
        for wrong in WRONG_NAMES:
            for call in (counted_form, lambda name: next(each_count(name))):
                error = outcome(call, wrong)
                self.assertTrue(type(error) is UnknownName and error.wanted is wrong)
            for number in (1, None, -1):
                error = outcome(count_by_divisors, wrong, number)
                self.assertTrue(type(error) is UnknownName and error.wanted is wrong)
            if not (type(wrong) is int and 0 <= wrong <= 10 ** 6):
                error = outcome(count_by_divisors, "Z2", wrong)
                self.assertTrue(type(error) is InvalidNumber and error.given is wrong)
        made = each_count("A3")
        with self.assertRaises(UnknownName):
            next(made)

    def test_speed(self):
        for name in COUNTED:
            self.assertLess(calls_of(count_by_divisors, name, 10 ** 6), 300)


class Faces(unittest.TestCase):
    def test_17_3_faces_in_faces(self):
        # Each face whose rows are rows of a told face, found among all choices of its rows.
        for size in (2, 3, 4):
            marks = face_marks(size)
            for upper in marks:
                rows = face_with(size, upper)
                counts = dict.fromkeys(marks, 0)
                for many in range(size, len(rows) + 1):
                    if upper == (12, 312) and many in (4, 5, 6, 7):
                        continue
                    for choice in combinations(rows, many):
                        if is_face(size, choice):
                            counts[mark_of(size, choice)] += 1
                for lower in marks:
                    if upper != (12, 312) or lower[0] > 7:
                        self.assertEqual(count_in(size, lower, upper), counts[lower])

    def test_17_3_faces_of_copies(self):
        for name in NAMES:
            copy = Copy(name, unit({"A2": 2, "A3": 3}.get(name, 4)))
            size, upper = copy.size, mark_of(copy.size, copy.rows)
            counts = dict.fromkeys(face_marks(size), 0)
            for many in range(1, 13):
                for face in each_face(copy, many):
                    counts[mark_of(size, face)] += 1
            self.assertEqual({lower: count_in(size, lower, upper) for lower in counts}, counts)

    def test_17_3_faces_about_faces(self):
        # Each copy that has the rows of a face, found by going around it wall by wall.
        for size, names in ((2, ("A2",)), (3, ("A3",)), (4, ("A4", "D4"))):
            tops = {name: mark_of(size, Copy(name, unit(size)).rows) for name in names}
            for lower in face_marks(size):
                if size == 4 and lower[0] < 6:
                    continue
                rows = set(face_with(size, lower))
                first = next(copy for name in names for copy in [Copy(name, unit(size))] if rows <= set(copy.rows))
                seen, level = {first.rows: first}, [first]
                while level:
                    found = [behind(copy, table) for copy in level for table in wall_tables(copy)]
                    level = [copy for copy in found if rows <= set(copy.rows) and copy.rows not in seen]
                    level = list({copy.rows: copy for copy in level}.values())
                    seen.update((copy.rows, copy) for copy in level)
                for name, top in tops.items():
                    self.assertEqual(count_about(size, lower, top), sum(copy.name == name for copy in seen.values()))

    def test_17_3_products(self):
        for size in (2, 3, 4):
            numbers = keepers_by_mark(size)
            for lower in numbers:
                for upper in numbers:
                    a, b = count_in(size, lower, upper), count_about(size, lower, upper)
                    self.assertEqual(a * numbers[lower], b * numbers[upper])
                    self.assertEqual(a > 0, b > 0)
                    if lower == upper:
                        self.assertEqual((a, b), (1, 1))
                    if lower[0] >= upper[0] and lower != upper:
                        self.assertEqual((a, b), (0, 0))

    def test_each_above(self):
        for size in (2, 3, 4):
            for lower in face_marks(size):
                found = list(each_above(size, lower))
                self.assertEqual(found, [upper for upper in face_marks(size) if count_in(size, lower, upper)])
                self.assertIn(lower, found)
        self.assertEqual(list(each_above(4, (12, 312))), [(12, 312)])

    def test_errors(self):
        for wrong in (True, None, 0, 5, LONG, "2", (2,), PLANE):
            for call, rest in ((count_in, ((2, 1), (3, 3))), (count_about, (None, None)), (first_above, ((2, 1),))):
                error = outcome(call, wrong, *rest)
                self.assertTrue(type(error) is InvalidNumber and error.given is wrong)
        for size in (2, 3, 4):
            right = face_marks(size)[0]
            others = tuple(mark for other in (2, 3, 4) if other != size for mark in face_marks(other))
            for wrong in WRONG + others + ([2, 1], (right,), right + (1,), (right[0], True), (right[0], str(right[1]))):
                for call in (count_in, count_about):
                    self.assertIs(type(outcome(call, size, wrong, right)), InvalidOperation)
                    self.assertIs(type(outcome(call, size, right, wrong)), InvalidOperation)
                    self.assertIs(type(outcome(call, size, wrong, None)), InvalidOperation)
                self.assertIs(type(outcome(first_above, size, wrong)), InvalidOperation)
        made = each_above(2, None)
        with self.assertRaises(InvalidOperation):
            next(made)


def first_above(size, lower):
    return next(each_above(size, lower))


class Untrue(unittest.TestCase):
    def test_17_4_equal_counts(self):
        # Conway and Sloane: these two forms take each value equally often, and are not alike.
        one = Form(((4, -2, -2, -5), (-2, 8, -3, 2), (-2, -3, 12, -2), (-5, 2, -2, 16)))
        other = Form(((4, 1, 4, 4), (1, 8, 0, -4), (4, 0, 12, 1), (4, -4, 1, 16)))
        self.assertEqual((one.determinant, other.determinant), (1729, 1729))
        self.assertEqual(count_values(one, 150), count_values(other, 150))
        self.assertIsNone(first_unlike(one, other, 150))
        self.assertIs(are_alike(one, other), False)

    def test_17_4_counts_of_0(self):
        self.assertEqual([count_by_divisors("Z2", number) for number in (3, 6, 7, 11)], [0] * 4)

    def test_17_4_products(self):
        self.assertNotEqual(count_by_divisors("Z2", 2 * 5), count_by_divisors("Z2", 2) * count_by_divisors("Z2", 5))


if __name__ == "__main__":
    unittest.main()
