"""Faces and their symmetries [0.18], [0.21], [14.1] to [14.5]."""

import unittest
from fractions import Fraction
from itertools import combinations

from ballgrids.cone.addresses import face_of
from ballgrids.cone.cones import behind, wall_rows, wall_tables, weighted
from ballgrids.cone.told import NAMES, RAYS, Copy
from ballgrids.errors import InvalidCopy, InvalidNumber, InvalidOperation, InvalidRows
from ballgrids.face.choosing import FLATS
from ballgrids.face.classes import face_marks, face_with, keepers_by_mark, mass
from ballgrids.face.faces import (
    are_alike_faces, dimension_of, each_face, face_keepers, face_matrix, face_table, is_face, is_face_matrix, mark_of)
from ballgrids.form.forms import Form
from ballgrids.span.spans import rank_of_rows
from tests.helper import (
    LONG, MOST, PLANE, TWENTY_FOUR, WRONG, calls_of, chance_of, det, far_matrix, inverse, is_normal, lead, normal,
    outcome, ratio, slow_rank, some_matrix, square_of, sum_table, times, transposed, unit)

SIZE = {"A2": 2, "A3": 3, "A4": 4, "D4": 4}
COUNTS = {
    2: {(2, 1): 8, (3, 3): 12},
    3: {(3, 1): 48, (4, 3): 24, (4, 4): 48, (5, 8): 16, (6, 16): 48},
    4: {(4, 1): 384, (5, 3): 96, (5, 4): 96, (5, 5): 240, (6, 8): 32, (6, 9): 288, (6, 11): 24, (6, 12): 96, (7, 16): 96,
        (7, 20): 96, (7, 21): 16, (7, 24): 16, (8, 40): 16, (8, 45): 16, (9, 75): 24, (9, 81): 144, (10, 125): 240,
        (12, 312): 1152},
}
TOLD = [(size, mark) for size in COUNTS for mark in COUNTS[size]]
RING, FORK = ((0, 0, 1), (0, 1, -1), (1, -1, 0), (1, 0, 0)), ((0, 0, 1), (0, 1, -1), (0, 1, 0), (1, -1, 0))
WRONG_SIZES = (True, False, None, 0, 1, 5, -2, LONG, "2", "", (2,), [2], {}, PLANE, ((0, 1), (1, 0)))


def told(name):
    return Copy(name, unit(SIZE[name]))


def slow_mark(rows):
    size = len(rows[0])
    return (len(rows), sum(abs(det(choice)) == 1 for choice in combinations(rows, size)))


def led_face(matrix, face):
    return tuple(sorted(normal(lead(matrix, row)) for row in face))


def slow_faces(copy, many):
    """All faces of a copy, by the words of [14.1]: its rows, and parts of its walls with n independent rows."""
    walls = [wall_rows(copy, table) for table in wall_tables(copy)]
    found = {rows for wall in walls for rows in combinations(wall, many)} if many <= max(map(len, walls)) else set()
    found = {rows for rows in found if slow_rank(rows) == copy.size}
    if many == len(copy):
        found.add(copy.rows)
    return sorted(found)


def slow_face_matrices(one, other):
    """All matrices that lead a face to another one: from the images of rows with the determinant 1 or -1."""
    size = len(one[0])
    base = next(choice for choice in combinations(one, size) if abs(det(choice)) == 1)
    back = inverse(transposed(base))
    signed = [row for face_row in other for row in (face_row, tuple(-n for n in face_row))]
    known = set(one) | {tuple(-n for n in row) for row in one}
    images = set(signed)

    def fits(rows):
        # A sum of two rows is a row of the face or none, and so is the sum of their images.
        last = rows[-1]
        for ahead, row in zip(base, rows[:-1]):
            for sign in (1, -1):
                before = tuple(a + sign * b for a, b in zip(base[len(rows) - 1], ahead))
                after = tuple(a + sign * b for a, b in zip(last, row))
                if (before in known) != (after in images):
                    return False
        return True

    found = [()]
    for _ in range(size):
        found = [rows + (row,) for rows in found for row in signed if fits(rows + (row,))]
    matrices = [times(transposed(rows), back) for rows in found]
    return tuple(sorted(matrix for matrix in matrices if abs(det(matrix)) == 1 and led_face(matrix, one) == other))


class Marks(unittest.TestCase):
    def test_14_3_marks_and_numbers(self):
        for size in (2, 3, 4):
            self.assertEqual(face_marks(size), tuple(sorted(COUNTS[size])))
            self.assertEqual(keepers_by_mark(size), COUNTS[size])
            self.assertEqual(list(keepers_by_mark(size)), sorted(COUNTS[size]))
            self.assertIs(type(keepers_by_mark(size)), dict)
        self.assertEqual([len(face_marks(size)) for size in (2, 3, 4)], [2, 5, 18])

    def test_14_4_masses(self):
        for size, wanted in ((2, (-1, 24)), (3, (0, 1)), (4, (0, 1))):
            self.assertEqual(mass(size), wanted)
            total = sum(
                Fraction((-1) ** (dimension_of(size, face_with(size, mark)) - 1), number)
                for mark, number in COUNTS[size].items())
            self.assertEqual(ratio(total), wanted)

    def test_told_faces(self):
        for size, mark in TOLD:
            face = face_with(size, mark)
            self.assertIs(is_face(size, face), True)
            self.assertEqual(slow_mark(face), mark)
            self.assertEqual(mark_of(size, face), mark)
            self.assertLess(max(abs(n) for row in face for n in row), 10 ** 9)

    def test_each_number_by_a_search(self):
        for size, mark in TOLD:
            face = face_with(size, mark)
            found = slow_face_matrices(face, face)
            self.assertEqual(len(found), COUNTS[size][mark])
            self.assertEqual(face_keepers(size, face), found)

    def test_0_21_classes(self):
        # All faces of the told cones have these marks, and each mark is that of one of them.
        for size, names in ((2, ("A2",)), (3, ("A3",)), (4, ("A4", "D4"))):
            seen = {slow_mark(face) for name in names for many in range(1, 13) for face in slow_faces(told(name), many)}
            self.assertEqual(sorted(seen), sorted(COUNTS[size]))

    def test_nothing_is_shared(self):
        for size in (2, 3, 4):
            keepers_by_mark(size).clear()
            self.assertEqual(keepers_by_mark(size), COUNTS[size])

    def test_wrong_sizes(self):
        for wrong in WRONG_SIZES:
            for call, rest in ((face_marks, ()), (keepers_by_mark, ()), (mass, ()), (face_with, ((2, 1),)), (face_with, (None,))):
                error = outcome(call, wrong, *rest)
                self.assertIs(type(error), InvalidNumber)
                self.assertIs(error.given, wrong)

    def test_wrong_marks(self):
        for size in (2, 3, 4):
            others = [mark for other in COUNTS if other != size for mark in COUNTS[other]]
            for wrong in WRONG + tuple(others) + (
                    [2, 1], (2, 1, 0), (2,), (2, True), (3, True), (4, True), (LONG, 1), "21", ((2, 1),), {(2, 1): 8}, (0, 0),
                    (12, 324), (2, "1"), (1, 2)):
                self.assertIs(type(outcome(face_with, size, wrong)), InvalidOperation, wrong)


class Faces(unittest.TestCase):
    def far_faces(self, seed, digits):
        chance = chance_of(seed)
        for size, mark in TOLD:
            yield size, mark, led_face(far_matrix(chance, size, digits), face_with(size, mark))

    def test_14_1_faces_of_first_copies_and_of_d4(self):
        for name in NAMES:
            copy = told(name)
            for many in range(1, 13):
                found = list(each_face(copy, many))
                self.assertEqual(found, slow_faces(copy, many))
                for face in found[::3]:
                    self.assertIs(is_face(copy.size, face), True)
                    self.assertEqual(mark_of(copy.size, face), slow_mark(face))

    def test_14_1_faces_of_other_copies(self):
        chance = chance_of(201)
        for name in NAMES:
            for digits in (3, 57):
                matrix = some_matrix(chance, SIZE[name], 3, 2) if digits == 3 else far_matrix(chance, SIZE[name], digits)
                copy = Copy(name, matrix)
                for many in range(1, 13):
                    found = list(each_face(copy, many))
                    self.assertEqual(found, sorted(set(found)))
                    self.assertEqual(
                        sorted(found), sorted(led_face(matrix, face) for face in each_face(told(name), many)))
                    for face in found[::40]:
                        self.assertTrue(is_face(copy.size, face))

    def test_many(self):
        self.assertEqual(
            [len(list(each_face(told("D4"), many))) for many in range(1, 13)],
            [0, 0, 0, 312, 696, 828, 624, 288, 64, 0, 0, 1])
        self.assertEqual(
            [len(list(each_face(told("A4"), many))) for many in range(1, 13)], [0, 0, 0, 125, 222, 205, 120, 45, 10, 1, 0, 0])
        self.assertEqual([len(list(each_face(told("A3"), many))) for many in range(1, 13)], [0, 0, 16, 15, 6, 1] + [0] * 6)
        self.assertEqual([len(list(each_face(told("A2"), many))) for many in range(1, 13)], [0, 3, 1] + [0] * 9)

    def test_flats(self):
        # The greatest sets of rays of which no n are independent.
        for name in NAMES:
            rays, size = RAYS[name], SIZE[name]
            flats = set()
            for choice in combinations(range(len(rays)), size - 1):
                rows = [rays[place] for place in choice]
                if slow_rank(rows) == size - 1:
                    flats.add(tuple(i for i, ray in enumerate(rays) if slow_rank(rows + [ray]) == size - 1))
            self.assertEqual(sorted(FLATS[name]), sorted(flats))

    def test_0_18_face_rows(self):
        # The face rows of a form are the rows of a face, and each face has the face rows of a form.
        chance = chance_of(202)
        for size, mark, face in self.far_faces(203, 4):
            weights = [1] * 12 if mark == (12, 312) else [chance.randint(1, 9) for _ in face]
            form = Form(sum_table([square_of(row) for row in face], weights))
            self.assertEqual(face_of(form)[0], face)
            self.assertEqual(face_table(size, face), sum_table([square_of(row) for row in face]))
            self.assertEqual(face_of(Form(face_table(size, face))), (face, 1, (1,) * len(face)))

    def test_14_1_dimensions(self):
        for size, mark, face in self.far_faces(204, 3):
            self.assertEqual(dimension_of(size, face), 10 if mark == (12, 312) else len(face))
            self.assertEqual(dimension_of(size, face), rank_of_rows(size, face))

    def test_14_2_led_faces(self):
        for digits in (3, 20, 57):
            for size, mark, face in self.far_faces(205 + digits, digits):
                self.assertIs(is_face(size, face), True)
                self.assertEqual(mark_of(size, face), mark)

    def test_sixty_digits(self):
        for size in (2, 3, 4):
            rows = (((1,) + (0,) * (size - 2) + (MOST,)),) + unit(size)[1:]
            face = tuple(sorted(rows))
            self.assertIs(is_face(size, face), True)
            self.assertEqual(mark_of(size, face), (size, 1))
            self.assertEqual(len(face_keepers(size, face)), COUNTS[size][(size, 1)])
            longer = tuple(sorted(((1,) + (0,) * (size - 2) + (LONG,),) + unit(size)[1:]))
            self.assertIs(is_face(size, longer), False)
            for call in (mark_of, dimension_of, face_table, face_keepers):
                self.assertIs(type(outcome(call, size, longer)), InvalidRows)

    def test_a_ball_of_copies(self):
        # What is a face and what is none, decided by all copies near the first one.
        for size, depth, most in ((2, 6, 3), (3, 4, 1)):
            copies = {Copy.first(size).rows: Copy.first(size)}
            for _ in range(depth):
                for copy in list(copies.values()):
                    for table in wall_tables(copy):
                        other = behind(copy, table)
                        copies.setdefault(other.rows, other)
            faces = {face for copy in copies.values() for many in range(2, 7) for face in slow_faces(copy, many)}
            numbers = range(-most, most + 1)
            rows = [row for row in tuples(size, numbers) if is_normal(row)]
            chance = chance_of(210)
            choices = [choice for many in (2, 3) for choice in combinations(rows, many)] if size == 2 else [
                tuple(sorted(chance.sample(rows, many))) for many in (2, 3, 3, 3, 4, 4, 4, 5, 5, 6) for _ in range(150)]
            answers = [is_face(size, choice) for choice in choices]
            self.assertEqual(answers, [choice in faces for choice in choices])
            self.assertTrue(any(answers) and not all(answers))

    def test_no_faces(self):
        for size, mark, face in self.far_faces(211, 3):
            row = face[0]
            for wrong in (
                    face[::-1], list(face), face[1:] + face[:1], face + (face[-1],), face + ((0,) * size,), ((0,) * size,) + face,
                    tuple(map(list, face)), (tuple(-n for n in row),) + face[1:], face + (None,), (face,), face[:size - 1],
                    tuple(sorted(face + (tuple(2 * n for n in row),))), tuple(sorted((tuple(2 * n for n in row),) + face[1:])),
                    dict.fromkeys(face), tuple(row + (0,) for row in face), "".join(map(str, row)), face[0]):
                self.assertIs(is_face(size, wrong), False, wrong)
        self.assertIs(is_face(2, ((0, True), (1, 0))), False)
        self.assertIs(is_face(2, ((False, 1), (1, 0))), False)
        self.assertIs(is_face(2, ((0, 1), (1, 0), (1, 1), (1, 2))), False)
        self.assertIs(is_face(2, ((0, 1), (1, -1), (1, 0), (1, 1))), False)
        for wrong in WRONG:
            for size in (2, 3, 4):
                self.assertIs(is_face(size, wrong), False)

    def test_rows_of_d4_that_are_no_face(self):
        frames = ((0, 1, 6, 11), (2, 5, 8, 9), (3, 4, 7, 10))
        rays = RAYS["D4"]
        seen = set()
        for many in (4, 5, 6, 8, 9, 11):
            for places in combinations(range(12), many):
                rows = tuple(rays[place] for place in places)
                whole = any(set(frame) <= set(places) for frame in frames)
                if whole and slow_rank(rows) == 4 and len(seen) % 7 == 0:
                    self.assertIs(is_face(4, rows), False)
                seen.add(places)


def tuples(size, numbers):
    found = [()]
    for _ in range(size):
        found = [row + (number,) for row in found for number in numbers]
    return found


class Matrices(unittest.TestCase):
    def test_14_3_alike_faces(self):
        chance = chance_of(220)
        for size in (2, 3, 4):
            faces = [led_face(some_matrix(chance, size, 3, 2), face_with(size, mark)) for mark in COUNTS[size]]
            for one in faces:
                for other in faces:
                    same = slow_mark(one) == slow_mark(other)
                    self.assertIs(are_alike_faces(size, one, other), same)
                    self.assertIs(face_matrix(size, one, other) is not None, same)

    def test_14_2_matrices_between(self):
        chance = chance_of(221)
        for digits in (3, 29, 57):
            for size, mark in TOLD:
                face = face_with(size, mark)
                one = led_face(some_matrix(chance, size, 3, 2), face)
                matrix = some_matrix(chance, size, 3, 2) if digits == 3 else far_matrix(chance, size, digits)
                other = led_face(matrix, face)
                found = face_matrix(size, one, other)
                self.assertEqual(led_face(found, one), other)
                self.assertEqual(abs(det(found)), 1)
                self.assertIs(is_face_matrix(size, one, other, found), True)
                self.assertIs(is_face_matrix(size, face, other, matrix), True)
                if digits < 57:
                    self.assertLess(max(abs(n) for row in found for n in row), 10 ** 400)
                if led_face(found, other) != one:
                    self.assertIs(is_face_matrix(size, other, one, found), False)
                self.assertIs(is_face_matrix(size, other, one, inverse(found)), True)

    def test_all_matrices_are_accepted(self):
        for size, mark in TOLD:
            face = face_with(size, mark)
            keepers = set(face_keepers(size, face))
            for keeper in sorted(keepers)[::7]:
                self.assertIs(is_face_matrix(size, face, face, keeper), True)
                self.assertIs(is_face_matrix(size, face, face, inverse(keeper)), True)
            chance = chance_of(222)
            for _ in range(20):
                matrix = some_matrix(chance, size, 2, 1)
                self.assertIs(is_face_matrix(size, face, face, matrix), matrix in keepers)

    def test_long_matrices(self):
        # A matrix that keeps a face with integers of sixty digits has twice as long ones.
        chance = chance_of(223)
        for size in (2, 3, 4):
            far = far_matrix(chance, size, 58)
            face = led_face(far, unit(size))
            swap = unit(size)[1:2] + unit(size)[:1] + unit(size)[2:]
            keeper = times(far, times(swap, inverse(far)))
            self.assertGreater(max(abs(n) for row in keeper for n in row), LONG)
            self.assertIs(is_face_matrix(size, face, face, keeper), True)
            self.assertIn(keeper, face_keepers(size, face))
            longer = tuple(tuple(n + LONG ** 3 * ((i, j) == (0, 1)) for j, n in enumerate(row)) for i, row in enumerate(unit(size)))
            self.assertEqual(det(longer), 1)
            self.assertIs(is_face_matrix(size, face, face, longer), False)

    def test_no_matrices(self):
        for size, mark in TOLD[::3]:
            face = face_with(size, mark)
            found = unit(size)
            for wrong in WRONG + (
                    [list(row) for row in found], list(found), found[:-1], found + found[:1], found[0],
                    ((True,) + found[0][1:],) + found[1:], tuple(tuple(2 * n for n in row) for row in found), face, (found,)):
                if wrong != unit(size) or wrong is None:
                    self.assertIs(is_face_matrix(size, face, face, wrong), wrong_is_keeper(size, face, wrong), wrong)

    def test_14_2_keepers_of_led_faces(self):
        chance = chance_of(224)
        for size, mark in TOLD:
            face = face_with(size, mark)
            for matrix in (some_matrix(chance, size, 4, 3), far_matrix(chance, size, 40)):
                other = led_face(matrix, face)
                found = face_keepers(size, other)
                self.assertIs(type(found), tuple)
                self.assertEqual(found, tuple(sorted(
                    times(matrix, times(keeper, inverse(matrix))) for keeper in face_keepers(size, face))))
                self.assertEqual(len(found), COUNTS[size][mark])


def wrong_is_keeper(size, face, value):
    """Whether one of the values that are mostly wrong happens to be a matrix that keeps a face."""
    if type(value) is not tuple or len(value) != size or any(type(row) is not tuple or len(row) != size for row in value):
        return False
    if any(type(n) is not int for row in value for n in row) or abs(det(value)) != 1:
        return False
    return led_face(value, face) == face


class Errors(unittest.TestCase):
    def check(self, call, arguments, kind):
        error = outcome(call, *arguments)
        self.assertIs(type(error), kind, (call, arguments))
        return error

    def test_wrong_sizes(self):
        for wrong in WRONG_SIZES:
            for call, rest in (
                    (is_face, 1), (mark_of, 1), (dimension_of, 1), (face_table, 1), (face_keepers, 1), (are_alike_faces, 2),
                    (face_matrix, 2), (is_face_matrix, 3)):
                for value in (None, ((0, 1), (1, 0))):
                    self.assertIs(self.check(call, (wrong,) + (value,) * rest, InvalidNumber).given, wrong)

    def test_wrong_rows(self):
        face = ((0, 1), (1, 0))
        for wrong in WRONG + (face[::-1], list(face), RING, (face,), ((0, 1), (2, 1)), ((0, 1), (LONG, 1)), Copy.first(2)):
            for call in (mark_of, dimension_of, face_table, face_keepers):
                self.check(call, (2, wrong), InvalidRows)
            for call in (are_alike_faces, face_matrix):
                self.check(call, (2, wrong, face), InvalidRows)
                self.check(call, (2, face, wrong), InvalidRows)
                self.check(call, (2, wrong, None), InvalidRows)
            for value in (unit(2), None):
                self.check(is_face_matrix, (2, wrong, face, value), InvalidRows)
                self.check(is_face_matrix, (2, face, wrong, value), InvalidRows)
        self.check(mark_of, (3, face), InvalidRows)
        self.check(mark_of, (2, RING), InvalidRows)
        self.assertEqual(mark_of(2, Copy.first(2).rows), (3, 3))

    def test_wrong_copies_and_numbers(self):
        for wrong in WRONG + ("A2", PLANE, Copy.first(2).rows):
            self.check(first_of, (wrong, 2), InvalidCopy)
            self.check(first_of, (wrong, None), InvalidCopy)
            if not (type(wrong) is int and 1 <= wrong <= 12):
                self.assertIs(self.check(first_of, (Copy.first(2), wrong), InvalidNumber).given, wrong)
        for name in NAMES:
            for wrong in (0, 13, -1, LONG, True, (2,), "2"):
                self.check(first_of, (told(name), wrong), InvalidNumber)
            for many in range(1, 13):
                self.assertIs(type(list(each_face(told(name), many))), list)

    def test_generators_wait(self):
        for arguments in ((None, None), (Copy.first(2), 0), (PLANE, 13)):
            made = each_face(*arguments)
            self.assertTrue(hasattr(made, "__next__"))
            with self.assertRaises((InvalidCopy, InvalidNumber)):
                next(made)


def first_of(copy, many):
    return next(iter(each_face(copy, many)))


class Sharing(unittest.TestCase):
    def test_equal_calls(self):
        for size, mark in TOLD:
            face = face_with(size, mark)
            before = repr(face)
            other = led_face(some_matrix(chance_of(230), size, 2, 1), face)
            for call, arguments in (
                    (mark_of, (size, face)), (dimension_of, (size, face)), (face_table, (size, face)),
                    (face_keepers, (size, face)), (face_matrix, (size, face, other)), (face_with, (size, mark))):
                self.assertEqual(call(*arguments), call(*arguments))
            self.assertEqual(repr(face), before)

    def test_generators_of_their_own(self):
        one, other = each_face(told("D4"), 5), each_face(told("D4"), 5)
        next(one)
        self.assertEqual(list(other)[1:], list(one))


class Speed(unittest.TestCase):
    def test_calls(self):
        chance = chance_of(240)
        face = led_face(far_matrix(chance, 4, 57), face_with(4, (12, 312)))
        small = led_face(far_matrix(chance, 4, 57), face_with(4, (4, 1)))
        for call, arguments, most in (
                (face_keepers, (4, face), 30000), (face_matrix, (4, face, face_with(4, (12, 312))), 5000),
                (is_face, (4, small), 1500), (face_keepers, (4, small), 15000),
                (lambda: list(each_face(told("D4"), 6)), (), 15000)):
            self.assertLess(calls_of(call, *arguments), most)


class Untrue(unittest.TestCase):
    def test_14_5_independent_rows(self):
        self.assertEqual(abs(det(((0, 1), (2, 1)))), 2)
        self.assertIs(is_face(2, ((0, 1), (2, 1))), False)

    def test_14_5_as_many_rows(self):
        self.assertEqual(len(RING), len(FORK))
        self.assertIs(are_alike_faces(3, RING, FORK), False)
        self.assertIsNone(face_matrix(3, RING, FORK))

    def test_14_5_sums_of_rows(self):
        # A face with n + 1 rows none of which is a sum or a difference of two others.
        signed = set(RING) | {tuple(-n for n in row) for row in RING}
        for one, other in combinations(RING, 2):
            for sign in (1, -1):
                self.assertNotIn(tuple(a + sign * b for a, b in zip(one, other)), signed)
        self.assertIs(is_face(3, RING), True)

    def test_14_5_rows_of_d4(self):
        frame = ((0, 0, 0, 1), (0, 0, 1, 0), (1, -1, 0, 0), (1, 1, -1, -1))
        self.assertTrue(all(row in told("D4") for row in frame))
        self.assertEqual(slow_rank(frame), 4)
        self.assertIs(is_face(4, frame), False)
        self.assertIs(is_face(4, told("D4").rows), True)
        self.assertEqual(len(TWENTY_FOUR.table), 4)
        self.assertEqual(weighted(told("D4"), (1,) * 12), face_table(4, told("D4").rows))


if __name__ == "__main__":
    unittest.main()
