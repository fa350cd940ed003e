"""Galleries, steps, words and distances [15.1] to [15.5]."""

import unittest
from itertools import product

from ballgrids.alike.alikes import keepers
from ballgrids.cone.cones import are_beside, behind, wall_tables
from ballgrids.cone.told import NAMES, Copy, rays_of, told_form
from ballgrids.errors import InvalidCopy, InvalidMatrix, InvalidNumber, InvalidOperation, InvalidStep, TooMany, UnknownName
from ballgrids.form.forms import Form
from ballgrids.word.galleries import (
    distance, each_step, gallery, gallery_along, is_gallery, is_step, is_word, steps_of, told_by_word, word_of)
from tests.helper import (
    LONG, MOST, PLANE, WRONG, calls_of, chance_of, det, far_matrix, inverse, lead, normal, outcome, some_matrix, times,
    unit)

SIZE = {"A2": 2, "A3": 3, "A4": 4, "D4": 4}
FIRST = {2: "A2", 3: "A3", 4: "A4"}
KEEPERS = {name: keepers(told_form(name)) for name in NAMES}
STEPS = {name: list(each_step(name)) for name in NAMES}
# Matrices with integers up to 30 between whose copies the galleries are long.
STEEP = (
    ((1, 30), (0, 1)), ((1, 0), (-30, 1)), ((30, 29), (29, 28)), ((29, 30), (30, 31 - 60)),
    ((1, 30, 30), (0, 1, 30), (0, 0, 1)), ((30, 29, 30), (-29, -28, -29), (-29, 30, -28)), ((1, 0, 0), (28, 1, 0), (5, -30, 1)),
    ((1, 30, 30, 30), (0, 1, 30, 30), (0, 0, 1, 30), (0, 0, 0, 1)),
    ((23, 30, -29, 27), (-30, 30, -29, 29), (-11, 29, 15, -14), (0, 1, 0, 0)),
    ((30, -28, 29, 27), (-21, -28, 29, -29), (10, 0, 0, 11), (-30, -27, 28, 30)),
)


def told(name):
    return Copy(name, unit(SIZE[name]))


def small_matrix(chance, size, most=30):
    """A matrix with integers up to a bound, some of them far from 0."""
    lines = [list(line) for line in unit(size)]
    for _ in range(chance.randint(1, 25)):
        one, other = chance.sample(range(size), 2)
        factor = chance.choice((-30, -7, -2, -1, 1, 2, 5, 13, 30))
        made = [a + factor * b for a, b in zip(lines[one], lines[other])]
        if max(map(abs, made)) <= most:
            lines[one] = made
    chance.shuffle(lines)
    return tuple(map(tuple, lines))


def walked(chance, name, steps):
    """A copy some walls away from a told cone."""
    copy = told(name)
    for _ in range(steps):
        copy = behind(copy, chance.choice(wall_tables(copy)))
    return copy


class Steps(unittest.TestCase):
    def test_each_step(self):
        for name in NAMES:
            copy = told(name)
            tables = wall_tables(copy)
            self.assertEqual(len(STEPS[name]), len(tables))
            for table, (other, matrix) in zip(tables, STEPS[name]):
                self.assertTrue(Copy(other, matrix) == behind(copy, table))
                self.assertEqual(other, behind(copy, table).name)
                self.assertIs(is_step(name, other, matrix), True)
        self.assertEqual({name: len(STEPS[name]) for name in NAMES}, {"A2": 3, "A3": 6, "A4": 10, "D4": 64})
        self.assertEqual([other for other, _ in STEPS["A4"]], ["D4"] * 10)

    def test_15_2_steps_with_keepers(self):
        chance = chance_of(301)
        for name in NAMES:
            for other, step in STEPS[name][::3]:
                for _ in range(4):
                    made = times(chance.choice(KEEPERS[name]), times(step, chance.choice(KEEPERS[other])))
                    self.assertIs(is_step(name, other, made), True)
                    self.assertIs(is_step(other, name, inverse(made)), True)
                    for wrong in NAMES:
                        if wrong != other and SIZE[wrong] == SIZE[name]:
                            self.assertEqual(
                                is_step(name, wrong, made), are_beside(told(name), Copy(wrong, made)))

    def test_15_2_all_small_matrices(self):
        for name, most in (("A2", 2), ("A3", 1)):
            size = SIZE[name]
            near, seen = [behind(told(name), table).rows for table in wall_tables(told(name))], 0
            for numbers in product(range(-most, most + 1), repeat=size * size):
                matrix = tuple(numbers[k:k + size] for k in range(0, size * size, size))
                if det(matrix) not in (1, -1):
                    self.assertIs(is_step(name, name, matrix), False)
                    continue
                beside = Copy(name, matrix).rows in near
                self.assertIs(is_step(name, name, matrix), beside)
                seen += beside
            self.assertGreater(seen, 3)

    def test_15_2_copies_beside(self):
        chance = chance_of(302)
        for _ in range(25):
            for name in NAMES:
                one = walked(chance, name, 2).led(some_matrix(chance, SIZE[name], 2, 2))
                for other in (behind(one, chance.choice(wall_tables(one))), one, walked(chance, name, 3)):
                    other = Copy(other.name, times(other.matrix, chance.choice(KEEPERS[other.name])))
                    between = times(inverse(one.matrix), other.matrix)
                    self.assertIs(is_step(one.name, other.name, between), are_beside(one, other))

    def test_no_steps(self):
        for name in NAMES:
            size = SIZE[name]
            far = tuple(tuple(n + LONG * (i == 0 and j == size - 1) for j, n in enumerate(row)) for i, row in enumerate(unit(size)))
            for wrong in WRONG + (unit(size), far, [list(row) for row in STEPS[name][0][1]], STEPS[name][0], told(name), name):
                self.assertIs(is_step(name, name, wrong), False)
            other, step = STEPS[name][0]
            self.assertIs(is_step(name, other, tuple(map(list, step))), False)
            self.assertIs(is_step(name, other, tuple(tuple(bool(n) if n in (0, 1) else n for n in row) for row in step)), False)
            self.assertIs(is_step(name, other, step + step[:1]), False)

    def test_errors(self):
        for wrong in WRONG + ("A5", "a2", "A2 ", "E8"):
            for value in (None, unit(2)):
                error = outcome(is_step, wrong, "A2", value)
                self.assertTrue(type(error) is UnknownName and error.wanted is wrong)
                error = outcome(is_step, "A2", wrong, value)
                self.assertTrue(type(error) is UnknownName and error.wanted is wrong)
                error = outcome(is_step, wrong, "A9", value)
                self.assertTrue(type(error) is UnknownName and error.wanted is wrong)
            error = outcome(lambda: next(iter(each_step(wrong))))
            self.assertTrue(type(error) is UnknownName and error.wanted is wrong)
        for one in NAMES:
            for other in NAMES:
                for value in (None, unit(2), unit(4)):
                    answer = outcome(is_step, one, other, value)
                    if SIZE[one] == SIZE[other]:
                        self.assertIn(answer, (True, False))
                    else:
                        self.assertIs(type(answer), InvalidOperation)

    def test_the_generator_waits(self):
        made = each_step("E8")
        with self.assertRaises(UnknownName):
            next(made)
        self.assertEqual(list(each_step("A3")), STEPS["A3"])


class Galleries(unittest.TestCase):
    def check_gallery(self, one, other, found):
        self.assertIs(type(found), tuple)
        self.assertLessEqual(len(found), 2000)
        self.assertTrue(found[0] == one and found[-1] == other)
        self.assertEqual(found[0].matrix, one.matrix)
        if len(found) > 1:
            self.assertEqual((found[-1].name, found[-1].matrix), (other.name, other.matrix))
        self.assertTrue(all(are_beside(ahead, copy) for ahead, copy in zip(found, found[1:])))
        self.assertIs(is_gallery(found), True)
        self.assertLess(max(abs(n) for copy in found for row in copy.matrix for n in row), 10 ** 400)

    def test_15_1_galleries(self):
        chance = chance_of(303)
        names = set()
        for _ in range(12):
            for one in NAMES:
                for other in NAMES:
                    if SIZE[one] == SIZE[other]:
                        here = Copy(one, some_matrix(chance, SIZE[one], 3, 2))
                        there = Copy(other, times(here.matrix, small_matrix(chance, SIZE[one])))
                        self.check_gallery(here, there, gallery(here, there))
                        names.add((one, other))
        self.assertEqual(len(names), 6)

    def test_steep_galleries(self):
        for matrix in STEEP:
            size = len(matrix)
            if det(matrix) not in (1, -1):
                continue
            for name in NAMES:
                if SIZE[name] == size:
                    here, there = Copy.first(size), Copy(name, matrix)
                    self.check_gallery(here, there, gallery(here, there))

    def test_equal_copies(self):
        for name in NAMES:
            for keeper in KEEPERS[name][::17]:
                one, other = told(name), Copy(name, keeper)
                self.check_gallery(one, other, gallery(one, other))
                self.check_gallery(other, one, gallery(other, one))
        self.assertEqual(len(gallery(told("A2"), told("A2"))), 1)

    def test_far_copies(self):
        chance = chance_of(304)
        for name in NAMES:
            size = SIZE[name]
            far = far_matrix(chance, size, 55)
            one, other = Copy(name, far), Copy(name, times(far, small_matrix(chance, size, 20)))
            self.check_gallery(one, other, gallery(one, other))
            further = [copy.led(far).led(far) for copy in (one, other)]
            self.check_gallery(further[0], further[1], gallery(further[0], further[1]))

    def test_bounds(self):
        chance = chance_of(305)
        for size in (2, 3, 4):
            for number in (30, -30, 31, -31):
                shear = tuple(
                    tuple(number if (i, j) == (0, size - 1) else int(i == j) for j in range(size)) for i in range(size))
                one = Copy.first(size).led(some_matrix(chance, size, 3, 2))
                other = Copy(FIRST[size], times(one.matrix, shear))
                found = outcome(gallery, one, other)
                if abs(number) == 30:
                    self.check_gallery(one, other, found)
                else:
                    self.assertTrue(type(found) is TooMany and found.most == 30)
        # The copies can be equal, or near each other: it is the matrix that counts.
        one = Copy("A2", ((1, 31), (0, 1)))
        self.check_gallery(one, one, gallery(one, one))
        found = outcome(gallery, Copy.first(2), one)
        self.assertTrue(type(found) is TooMany and found.most == 30)

    def test_no_galleries(self):
        good = gallery(told("A4"), Copy("D4", ((1, 2, 0, 0), (0, 1, 3, 0), (0, 0, 1, 1), (0, 0, 0, 1))))
        self.assertGreater(len(good), 3)
        for wrong in WRONG + (
                (), list(good), good[0], good + (None,), (None,) + good, good + (told("A2"),), (told("A3"),) + good,
                good[:1] + good[2:], good + good[-1:], (good,), tuple(copy.form for copy in good), (good[0].form,),
                (told("A2"), told("A2")), (told("A2"), told("A3")), ("A2",), good[0].rows):
            self.assertIs(is_gallery(wrong), False)
            self.assertIs(type(outcome(steps_of, wrong)), InvalidOperation)
        self.assertIs(is_gallery(good[:1]), True)
        self.assertIs(is_gallery(good[::-1]), True)
        self.assertIs(is_gallery(good + good[-2::-1]), True)
        self.assertIs(is_gallery((told("A4"), told("D4"))), True)

    def test_errors(self):
        for wrong in WRONG + ("A2", told("A2").rows, told("A2").form):
            for value in (told("A2"), None, wrong):
                self.assertIs(type(outcome(gallery, wrong, value)), InvalidCopy)
                self.assertIs(type(outcome(distance, wrong, value)), InvalidCopy)
            self.assertIs(type(outcome(gallery, told("A2"), wrong)), InvalidCopy)
            self.assertIs(type(outcome(distance, told("A3"), wrong)), InvalidCopy)
            for steps in ((), None, (("A2", unit(2)),)):
                self.assertIs(type(outcome(gallery_along, wrong, steps)), InvalidCopy)
        self.assertIs(type(outcome(gallery, told("A2"), told("A3"))), InvalidOperation)
        self.assertIs(type(outcome(gallery, Copy("A2", ((1, 99), (0, 1))), told("D4"))), InvalidOperation)


class Along(unittest.TestCase):
    def test_there_and_back(self):
        chance = chance_of(306)
        for name in NAMES:
            for _ in range(5):
                here = Copy(name, some_matrix(chance, SIZE[name], 3, 2))
                there = Copy(FIRST[SIZE[name]], times(here.matrix, small_matrix(chance, SIZE[name], 9)))
                way = gallery(here, there)
                steps = steps_of(way)
                self.assertIs(type(steps), tuple)
                self.assertEqual(len(steps), len(way) - 1)
                ahead = here
                for (told_name, step), copy in zip(steps, way[1:]):
                    self.assertEqual(told_name, copy.name)
                    self.assertEqual(times(ahead.matrix, step), copy.matrix)
                    self.assertIs(is_step(ahead.name, told_name, step), True)
                    ahead = copy
                found = gallery_along(here, steps)
                self.assertIs(type(found), tuple)
                self.assertTrue(found == way)
                self.assertEqual([copy.matrix for copy in found], [copy.matrix for copy in way])
                other = here.led(some_matrix(chance, SIZE[name], 2, 2))
                self.assertTrue(gallery_along(other, steps)[-1] == there.led(times(other.matrix, inverse(here.matrix))))
        self.assertEqual(steps_of((told("A2"),)), ())
        self.assertTrue(gallery_along(told("D4"), ()) == (told("D4"),))

    def test_far_steps(self):
        chance = chance_of(307)
        copy = Copy("D4", far_matrix(chance, 4, 60)).led(far_matrix(chance, 4, 60))
        steps = []
        name = "D4"
        for _ in range(30):
            name, step = chance.choice(STEPS[name])
            steps.append((name, step))
        way = gallery_along(copy, tuple(steps))
        self.assertIs(is_gallery(way), True)
        self.assertEqual(steps_of(way), tuple(steps))

    def test_no_steps(self):
        name, step = STEPS["A2"][0]
        good = ((name, step), (name, STEPS["A2"][1][1]))
        self.assertEqual(len(gallery_along(told("A2"), good)), 3)
        for wrong in WRONG + (
                list(good), good + (None,), (None,) + good, ([name, step],), ((name,),), ((name, step, 1),), ((step, name),),
                ((name, unit(2)),), good[0], ("A2", step), (("A3", step),), (("A2", STEPS["A3"][0][1]),), STEPS["A3"][:1],
                tuple(STEPS["A3"][:1]), ((["A2"], step),), ((None, step),), good + (("A2", unit(2)),), good + (("E8", step),),
                (("A2", [list(row) for row in step]),), {0: good[0]}, "A2", told("A2")):
            if wrong == ():
                continue
            self.assertIs(type(outcome(gallery_along, told("A2"), wrong)), InvalidStep, wrong)
        # A step from D4 to D4 is none from A4 to D4.
        step = next(step for name, step in STEPS["D4"] if name == "D4")
        self.assertEqual(len(gallery_along(told("D4"), (("D4", step),))), 2)
        if not is_step("A4", "D4", step):
            self.assertIs(type(outcome(gallery_along, told("A4"), (("D4", step),))), InvalidStep)


class Words(unittest.TestCase):
    def test_15_3_words(self):
        chance = chance_of(308)
        seen = set()
        for size in (2, 3, 4):
            for matrix in [small_matrix(chance, size) for _ in range(25)] + [m for m in STEEP if len(m) == size] + [unit(size)]:
                if det(matrix) not in (1, -1):
                    continue
                word = word_of(size, matrix)
                seen.add((size, det(matrix)))
                self.assertLessEqual(len(word), 2000)
                self.assertIs(type(word), tuple)
                self.assertEqual((word[0][0], word[-1][0]), (FIRST[size], FIRST[size]))
                self.assertIn(word[0][1], KEEPERS[FIRST[size]])
                made = word[0][1]
                for (ahead, _), (name, step) in zip(word, word[1:]):
                    self.assertIs(is_step(ahead, name, step), True)
                    made = times(made, step)
                self.assertEqual(made, matrix)
                self.assertIs(is_word(size, matrix, word), True)
                self.assertEqual(told_by_word(size, word), matrix)
                minus = tuple(tuple(-n for n in row) for row in matrix)
                self.assertIs(is_word(size, minus, word), False)
                turned = ((word[0][0], tuple(tuple(-n for n in row) for row in word[0][1])),) + word[1:]
                self.assertIs(is_word(size, minus, turned), True)
        self.assertEqual(len(seen), 6)

    def test_words_of_others(self):
        # Words that wander about: with other keepers, and there and back.
        chance = chance_of(309)
        for size in (2, 3, 4):
            for _ in range(10):
                name = FIRST[size]
                word = [(name, chance.choice(KEEPERS[name]))]
                while len(word) < 6 or name != FIRST[size]:
                    name, step = chance.choice(STEPS[word[-1][0]])
                    word.append((name, times(chance.choice(KEEPERS[word[-1][0]]), times(step, chance.choice(KEEPERS[name])))))
                word = tuple(word)
                matrix = unit(size)
                for _, step in word:
                    matrix = times(matrix, step)
                self.assertIs(is_word(size, matrix, word), True)
                self.assertEqual(told_by_word(size, word), matrix)
                self.assertIs(is_word(size, matrix, word[1:]), False)
                self.assertIs(is_word(size, matrix, list(word)), False)
                if size == 4:
                    cut = word[:max(k for k, (name, _) in enumerate(word) if name == "D4") + 1]
                    self.assertIs(type(outcome(told_by_word, 4, cut)), InvalidStep)

    def test_long_words(self):
        # Far beyond thirty, and beyond sixty digits.
        name, step = "A2", ((1, 1), (0, 1))
        back = ((1, 0), (1, 1))
        word = (("A2", unit(2)),) + ((name, step), (name, back)) * 200
        matrix = unit(2)
        for _, told_step in word:
            matrix = times(matrix, told_step)
        self.assertGreater(matrix[0][0], LONG)
        self.assertEqual(told_by_word(2, word), matrix)
        self.assertIs(type(outcome(is_word, 2, matrix, word)), InvalidMatrix)
        short = word[:101]
        self.assertIs(is_word(2, told_by_word(2, short), short), True)

    def test_no_words(self):
        step = STEPS["A2"][0][1]
        first = ("A2", unit(2))
        for wrong in WRONG + (
                (), first, [first], (list(first),), ((first,),), (("A2",),), (("A2", unit(2), 1),), (("A2", step),),
                (("A3", unit(3)),), (("D4", unit(4)),), ((["A2"], unit(2)),), (first, first), (first, None), (first, ("A2",)),
                (first, ("A2", step), ("A2", unit(2))), (first, ("A3", STEPS["A3"][0][1])), (first, ("A2", step, 0)),
                (("A2", ((True, 0), (0, 1))),), (("A2", ((1, False), (0, 1))),), (first, ["A2", step]), {"A2": unit(2)},
                told("A2"), "A2", (("A2", ((1, LONG), (0, 1))),), (first, ("A2", ((1, LONG), (0, 1))))):
            self.assertIs(is_word(2, unit(2), wrong), False, wrong)
            self.assertIs(type(outcome(told_by_word, 2, wrong)), InvalidStep, wrong)
        self.assertIs(is_word(2, unit(2), (first,)), True)
        # Words end at A4, not at D4.
        self.assertIs(is_word(4, unit(4), (("A4", unit(4)), ("D4", unit(4)))), False)
        self.assertIs(is_word(4, unit(4), (("A4", unit(4)), ("D4", unit(4)), ("A4", unit(4)))), True)
        self.assertIs(is_word(4, unit(4), (("D4", unit(4)), ("A4", unit(4)))), False)

    def test_bounds(self):
        for size in (2, 3, 4):
            for number in (30, -30, 31, -31, MOST):
                matrix = tuple(
                    tuple(number if (i, j) == (size - 1, 0) else int(i == j) for j in range(size)) for i in range(size))
                found = outcome(word_of, size, matrix)
                if abs(number) == 30:
                    self.assertIs(is_word(size, matrix, found), True)
                else:
                    self.assertTrue(type(found) is TooMany and found.most == 30)
                    self.assertIs(is_word(size, matrix, (("A2", unit(2)),)), False)

    def test_errors(self):
        for wrong in (True, None, 0, 1, 5, LONG, "2", (2,), PLANE):
            for call, rest in ((word_of, (unit(2),)), (word_of, (None,)), (is_word, (unit(2), None)), (is_word, (None, None)),
                               (told_by_word, (None,)), (told_by_word, ((("A2", unit(2)),),))):
                error = outcome(call, wrong, *rest)
                self.assertTrue(type(error) is InvalidNumber and error.given is wrong)
        for size in (2, 3, 4):
            long = tuple(tuple(LONG if (i, j) == (0, 1) else int(i == j) for j in range(size)) for i in range(size))
            for wrong in WRONG + (unit(2 + size % 3), unit(5), long, [list(row) for row in unit(size)], told(FIRST[size]),
                                  tuple(tuple(2 * n for n in row) for row in unit(size)), unit(size)[:-1]):
                if wrong == unit(size):
                    continue
                self.assertIs(type(outcome(word_of, size, wrong)), InvalidMatrix)
                for value in (None, ((FIRST[size], unit(size)),)):
                    self.assertIs(type(outcome(is_word, size, wrong, value)), InvalidMatrix)


class Distances(unittest.TestCase):
    def test_15_4_by_the_tree(self):
        # All copies up to a distance, found wall by wall; there is just one way to each of them.
        level, seen = [Copy.first(2)], {Copy.first(2).rows}
        for number in range(9):
            for copy in level:
                self.assertEqual(distance(Copy.first(2), copy), number)
                self.assertEqual(distance(copy, Copy.first(2)), number)
                other = Copy("A2", times(copy.matrix, KEEPERS["A2"][number]))
                self.assertEqual(distance(Copy.first(2), other), number)
            found = [behind(copy, table) for copy in level for table in wall_tables(copy)]
            level = [copy for copy in found if copy.rows not in seen]
            self.assertEqual(len({copy.rows for copy in level}), len(level))
            self.assertEqual(len(level), 3 * 2 ** number)
            seen.update(copy.rows for copy in level)

    def test_15_4_galleries(self):
        chance = chance_of(310)
        for _ in range(60):
            one = Copy("A2", some_matrix(chance, 2, 5, 4))
            other = Copy("A2", times(one.matrix, small_matrix(chance, 2)))
            way = gallery(one, other)
            rows = [copy.rows for copy in way]
            if len(set(rows)) == len(rows):
                self.assertEqual(distance(one, other), len(way) - 1)
            self.assertEqual((len(way) - 1 - distance(one, other)) % 2, 0)
            self.assertEqual(distance(one, other), distance(other, one))

    def test_15_4_far_matrices(self):
        for k in (1, 2, 30, 31, 10 ** 9, MOST):
            self.assertEqual(distance(Copy.first(2), Copy("A2", ((1, k), (0, 1)))), k)
            self.assertEqual(distance(Copy("A2", ((1, -k), (0, 1))), Copy("A2", ((1, k), (0, 1)))), 2 * k)
        chance = chance_of(311)
        for _ in range(30):
            one, other = (Copy("A2", far_matrix(chance, 2, 60)) for _ in range(2))
            matrix = far_matrix(chance, 2, 60)
            known = distance(one, other)
            self.assertEqual(known, slow_distance(one, other))
            self.assertEqual(distance(one.led(matrix), other.led(matrix)), known)
            self.assertEqual(distance(one, one), 0)
            self.assertEqual(distance(one, one.led(unit(2))), 0)

    def test_15_5_three_copies(self):
        chance = chance_of(312)
        for digits in (3, 10, 60):
            for _ in range(20):
                one, two, three = (Copy("A2", far_matrix(chance, 2, digits)) for _ in range(3))
                self.assertEqual((distance(one, two) + distance(two, three) + distance(one, three)) % 2, 0)

    def test_errors(self):
        for one, other in (("A3", "A3"), ("A4", "A4"), ("D4", "A4"), ("D4", "D4")):
            self.assertIs(type(outcome(distance, told(one), told(other))), InvalidOperation)
        self.assertIs(type(outcome(distance, told("A2"), told("A3"))), InvalidOperation)
        self.assertIs(type(outcome(distance, told("A3"), told("A2"))), InvalidOperation)


def slow_distance(one, other):
    """The distance by the words of [15.4]."""
    if one.rows == other.rows:
        return 0
    between = times(inverse(one.matrix), other.matrix)
    fitting = []
    for bend in (((1, 0), (0, 1)), ((0, -1), (1, 1)), ((1, 1), (0, -1))):
        rows = [lead(times(inverse(bend), between), ray) for ray in rays_of("A2")]
        if all(not (min(row) < 0 < max(row)) for row in rows):
            fitting.append(rows)
    (rows,) = fitting
    top, bottom = max((tuple(map(abs, row)) for row in rows), key=sum)
    total = 0
    while bottom:
        total += top // bottom
        top, bottom = bottom, top % bottom
    return total


class Untrue(unittest.TestCase):
    def test_15_5_lengths(self):
        # All copies with some rows in common, one beside the other: from one to its neighbour there are two ways.
        rows = ((0, 0, 1), (0, 1, -1), (1, -1, 0), (1, 0, 0))
        ring = [told("A3")]
        while True:
            beside = [behind(ring[-1], table) for table in wall_tables(ring[-1])]
            further = [copy for copy in beside if set(rows) <= set(copy.rows) and copy.rows not in [told.rows for told in ring]]
            if not further:
                break
            ring.append(further[0])
        self.assertGreater(len(ring), 2)
        short, long = (ring[0], ring[-1]), tuple(ring)
        self.assertIs(is_gallery(short), True)
        self.assertIs(is_gallery(long), True)
        self.assertEqual(len({copy.rows for copy in long}), len(long))
        self.assertNotEqual(len(short), len(long))

    def test_15_5_products(self):
        step = ((1, 1), (0, 1))
        self.assertIs(is_step("A2", "A2", step), True)
        self.assertIs(is_step("A2", "A2", times(step, step)), False)
        self.assertIs(is_step("A2", "A2", times(step, inverse(step))), False)

    def test_15_5_keepers(self):
        self.assertIs(is_step("A4", "D4", unit(4)), True)
        for name in ("A4", "D4"):
            self.assertIn(unit(4), KEEPERS[name])
            self.assertEqual(sorted(normal(lead(unit(4), ray)) for ray in rays_of(name)), list(rays_of(name)))


class Sharing(unittest.TestCase):
    def test_equal_calls(self):
        one, other = told("A4"), Copy("D4", ((1, 2, 0, 0), (0, 1, 3, 0), (0, 0, 1, 1), (0, 0, 0, 1)))
        before = (repr(one.matrix), repr(other.rows))
        first, second = gallery(one, other), gallery(one, other)
        self.assertEqual([copy.matrix for copy in first], [copy.matrix for copy in second])
        self.assertEqual(steps_of(first), steps_of(second))
        self.assertEqual(word_of(4, other.matrix), word_of(4, other.matrix))
        self.assertEqual((repr(one.matrix), repr(other.rows)), before)
        self.assertEqual(list(each_step("D4")), list(each_step("D4")))


class Speed(unittest.TestCase):
    def test_calls(self):
        for matrix in STEEP:
            if det(matrix) in (1, -1):
                size = len(matrix)
                word = word_of(size, matrix)
                self.assertLess(calls_of(word_of, size, matrix), 100 * len(word))
                self.assertLess(calls_of(gallery, Copy.first(size), Copy(FIRST[size], matrix)), 300 * len(word))
                self.assertLess(calls_of(is_word, size, matrix, word), 150 * len(word))
        self.assertLess(calls_of(distance, Copy.first(2), Copy("A2", ((1, MOST), (0, 1)))), 1000)
        self.assertEqual(Form(PLANE.table), PLANE)


if __name__ == "__main__":
    unittest.main()
