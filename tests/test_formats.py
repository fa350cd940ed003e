"""Texts of forms, matrices and addresses [19.1] to [19.4]."""

import re
import unittest

from ballgrids.cone.addresses import address, is_address
from ballgrids.cone.told import NAMES, Copy, rays_of
from ballgrids.errors import InvalidForm, InvalidMatrix, InvalidOperation, ParseError
from ballgrids.form.forms import Form, is_positive
from ballgrids.form.matrices import is_matrix
from ballgrids.text.formats import (
    read_address, read_form, read_matrix, write_address, write_form, write_matrix)
from tests.helper import FORMS, LONG, MOST, PLANE, WRONG, chance_of, det, far_matrix, many_forms, outcome, some_matrix, unit

SIZE = {"A2": 2, "A3": 3, "A4": 4, "D4": 4}
SIGNS = "0123456789,/- AD+.\tx\u00b2\u0663"
INTEGER = re.compile("0|-?[1-9][0-9]{0,59}")
BEGUN = re.compile("|0|-|-?[1-9][0-9]{0,59}")
WEIGHT = re.compile("0|[1-9][0-9]{0,399}")


# What can still become a right text, decided by splitting it, and not sign by sign.

def is_begun_row(text, size):
    parts = text.split(",")
    return len(parts) <= size and all(map(INTEGER.fullmatch, parts[:-1])) and bool(BEGUN.fullmatch(parts[-1]))


def is_row(text, size):
    parts = text.split(",")
    return len(parts) == size and all(map(INTEGER.fullmatch, parts))


def is_square(text, sizes):
    return any(text.count("/") == size - 1 and all(is_row(row, size) for row in text.split("/")) for size in sizes)


def is_begun_square(text, sizes):
    rows = text.split("/")
    return any(
        len(rows) <= size and all(is_row(row, size) for row in rows[:-1]) and is_begun_row(rows[-1], size) for size in sizes)


def is_begun_address(text):
    pieces = text.split(" ")
    if len(pieces) == 1:
        return any(name.startswith(text) for name in NAMES)
    if pieces[0] not in NAMES or len(pieces) > 4:
        return False
    name = pieces[0]
    if len(pieces) == 2:
        return is_begun_square(pieces[1], (SIZE[name],))
    if not is_square(pieces[1], (SIZE[name],)):
        return False
    if len(pieces) == 3:
        return pieces[2] == "" or (bool(WEIGHT.fullmatch(pieces[2])) and pieces[2] != "0")
    if not WEIGHT.fullmatch(pieces[2]) or pieces[2] == "0":
        return False
    weights = pieces[3].split(",")
    return len(weights) <= len(rays_of(name)) and all(map(WEIGHT.fullmatch, weights[:-1])) and (
        weights[-1] == "" or bool(WEIGHT.fullmatch(weights[-1])))


def is_whole_address(text):
    pieces = text.split(" ")
    if len(pieces) != 4 or not is_begun_address(text):
        return False
    weights = pieces[3].split(",")
    return len(weights) == len(rays_of(pieces[0])) and all(map(WEIGHT.fullmatch, weights))


def wrong_index(text, is_begun, is_whole):
    """The index that ParseError must keep, or None if the text is right."""
    for index in range(len(text)):
        if not is_begun(text[:index + 1]):
            return index
    return None if is_whole(text) else len(text)


def square_index(text):
    sizes = (2, 3, 4)
    return wrong_index(text, lambda told: is_begun_square(told, sizes), lambda told: is_square(told, sizes))


def address_index(text):
    return wrong_index(text, is_begun_address, is_whole_address)


def changed(text, signs=SIGNS):
    """A sign left out, put in, exchanged, or all from one on left out, at each index."""
    for index in range(len(text) + 1):
        yield text[:index]
        yield text[:index] + text[index + 1:]
        for sign in signs:
            yield text[:index] + sign + text[index:]
            yield text[:index] + sign + text[index + 1:]


class Writing(unittest.TestCase):
    def test_19_1_texts(self):
        self.assertEqual(write_form(PLANE), "2,1/1,2")
        self.assertEqual(write_matrix(((1, 0, 0), (0, 1, 0), (5, 0, 1))), "1,0,0/0,1,0/5,0,1")
        self.assertEqual(write_matrix(((-1, 0), (-10, 1))), "-1,0/-10,1")
        for form in many_forms(701, 10):
            self.assertEqual(write_form(form), "/".join(",".join(map(str, row)) for row in form.table))
            matrix = far_matrix(chance_of(702), form.size, 60)
            self.assertEqual(write_matrix(matrix), "/".join(",".join(map(str, row)) for row in matrix))
        far = PLANE.led(((1, MOST), (0, 1))).led(((1, MOST), (0, 1)))
        self.assertEqual(write_form(far), "/".join(",".join(map(str, row)) for row in far.table))

    def test_19_1_longest_integers(self):
        # Integers with more digits than str writes.
        form = PLANE
        while max(form.table[1]) < 10 ** 4400:
            form = form.led(((1, MOST), (0, 1))).led(((1, 0), (MOST, 1)))
        text = write_form(form)
        self.assertGreater(len(text), 4 * 4300)
        rows = [[digits_of(part) for part in row.split(",")] for row in text.split("/")]
        self.assertEqual(tuple(map(tuple, rows)), form.table)

    def test_19_2_addresses(self):
        self.assertEqual(write_address((Copy.first(2), 1, (1, 1, 0))), "A2 1,0/0,1 1 1,1,0")
        for form in many_forms(703, 10):
            copy, scale, weights = address(form)
            self.assertEqual(write_address((copy, scale, weights)), " ".join(
                (copy.name, write_matrix(copy.matrix), str(scale), ",".join(map(str, weights)))))

    def test_wrong_arguments(self):
        for wrong in WRONG + (PLANE.table, Copy.first(2), "2,1/1,2"):
            if not isinstance(wrong, Form):
                self.assertIs(type(outcome(write_form, wrong)), InvalidForm)
        for wrong in WRONG + (((1, 1), (1, 1)), ((1, 0), (0, LONG)), ((1,),), unit(5), [[1, 0], [0, 1]], PLANE):
            if not any(is_matrix(size, wrong) for size in (2, 3, 4)):
                self.assertIs(type(outcome(write_matrix, wrong)), InvalidMatrix)

    def test_wrong_addresses(self):
        copy = Copy.first(2)
        good = (copy, 1, (1, 0, 2))
        self.assertEqual(write_address(good), "A2 1,0/0,1 1 1,0,2")
        for wrong in WRONG + (
                list(good), good + (1,), good[:2], (copy, 0, (1, 0, 2)), (copy, -1, (1, 0, 2)), (copy, True, (1, 0, 2)),
                (copy, 1, (1, 0)), (copy, 1, (1, 0, 2, 3)), (copy, 1, (1, -1, 2)), (copy, 1, (1, True, 2)), (copy, 1, [1, 0, 2]),
                (copy, 1, (1, None, 2)), (copy, "1", (1, 0, 2)), ("A2", 1, (1, 0, 2)), (copy.matrix, 1, (1, 0, 2)), (copy, 1, None),
                (copy, 10 ** 400, (1, 0, 2)), (copy, 1, (1, 0, 10 ** 400)), (copy, 10 ** 5000, (1, 0, 2)), (copy, 1, (1, 0, 10 ** 5000)),
                (copy, 1, (1, 0, -10 ** 5000)), (copy, "1" * 9999, (1, 0, 2)), "A" * 9999, (Copy.first(3), 1, (1, 0, 2)), copy,
                (PLANE, 1, (1, 0, 2)), (copy, 1, copy), (copy, 1, ("1", "0", "2")), {0: good}, (None, None, None)):
            self.assertIs(type(outcome(write_address, wrong)), InvalidOperation)
        for number in (10 ** 400 - 1, LONG):
            text = write_address((copy, number, (number, 0, number)))
            self.assertEqual(text, f"A2 1,0/0,1 {number} {number},0,{number}")
        # An address need not be one of a form; all weights can be 0.
        self.assertEqual(write_address((copy, 7, (0, 0, 0))), "A2 1,0/0,1 7 0,0,0")


def digits_of(text):
    """An integer of any length."""
    sign, text = (-1, text[1:]) if text[0] == "-" else (1, text)
    number = 0
    for start in range(0, len(text), 1000):
        part = text[start:start + 1000]
        number = number * 10 ** len(part) + int(part)
    return sign * number


class Reading(unittest.TestCase):
    def check_square(self, text):
        index = square_index(text)
        for read, kind in ((read_form, InvalidForm), (read_matrix, InvalidMatrix)):
            found = outcome(read, text)
            if index is not None:
                self.assertIs(type(found), ParseError, text)
                self.assertEqual(found.index, index, text)
                continue
            square = tuple(tuple(map(int, row.split(","))) for row in text.split("/"))
            if read is read_form and is_positive(len(square), square):
                self.assertEqual(found, Form(square))
            elif read is read_matrix and abs(det(square)) == 1:
                self.assertEqual(found, square)
            else:
                self.assertIs(type(found), kind, text)

    def test_19_3_squares(self):
        for text in (
                "2,1/1,2", "-1,0/0,1", "1,0,0/0,1,0/0,0,1", "10,-2,0/-2,30,1/0,1,9", "1,0,0,0/0,1,0,0/0,0,1,0/0,0,0,1", "0,0/0,0",
                "3,-1/-1,3", "1,2/2,1", "1,2/3,4"):
            self.check_square(text)
            for wrong in changed(text):
                self.check_square(wrong)

    def test_19_3_other_texts(self):
        for text in ("", "/", ",", "-", "0", "00", "-0", "1", "1,", "1,2", "1/2", "1,2,3,4,5", "1,2/3", "1,2/3,4/5", "1,2/3,4,5", "1,2,3/4,5/6",
                     "1,2,3/4,5,6", "1,2//3,4", "1,,2/3,4", " 1,2/3,4", "1,2/3,4 ", "1, 2/3,4", "1,2/3,4\n", "01,2/3,4", "1,2/3,04", "--1,2/3,4",
                     "+1,2/3,4", "1.0,2/3,4", "a", "\u0661,2/3,4", "1,2/3,4" * 400, "," * 3000, "9" * 3000, "\t", "1,-/1,2", "1,-0/1,2"):
            self.check_square(text)

    def test_19_3_digits(self):
        for digits in (59, 60, 61, 62, 500):
            number = "9" * digits
            for text in (f"{number},0/0,{number}", f"1,0/0,{number}", f"1,-{number}/0,1", f"1,0/{number},1", f"-{number},1/1,1",
                         f"1,0,0/0,1,{number}/0,0,1"):
                self.check_square(text)
        self.assertEqual(read_form(f"{MOST},0/0,{MOST}"), Form.diagonal(MOST, MOST))
        error = outcome(read_form, f"{LONG},0/0,1")
        self.assertTrue(type(error) is ParseError and error.index == 60)
        error = outcome(read_matrix, f"1,-{LONG}/0,1")
        self.assertTrue(type(error) is ParseError and error.index == 63)

    def test_19_3_addresses(self):
        for name in NAMES:
            size, many = SIZE[name], len(rays_of(name))
            for text in (
                    f"{name} {write_matrix(unit(size))} 1 " + ",".join("1" * many),
                    f"{name} {write_matrix(some_matrix(chance_of(704), size, 3, 2))} 30 " + ",".join(map(str, range(many)))):
                self.check_address(text)
                for wrong in changed(text, "01-,/ A4x"):
                    self.check_address(wrong)

    def check_address(self, text):
        index = address_index(text)
        found = outcome(read_address, text)
        if index is not None:
            self.assertIs(type(found), ParseError, text)
            self.assertEqual(found.index, index, text)
            return
        name, square, scale, weights = text.split(" ")
        matrix = tuple(tuple(map(int, row.split(","))) for row in square.split("/"))
        if abs(det(matrix)) != 1:
            self.assertIs(type(found), InvalidMatrix, text)
            return
        self.assertEqual(len(found), 3)
        self.assertEqual((found[0].name, found[0].matrix), (name, matrix))
        self.assertEqual(found[1:], (int(scale), tuple(map(int, weights.split(",")))))
        self.assertIs(type(found), tuple)

    def test_19_3_addresses_digits(self):
        for digits in (399, 400, 401, 600):
            number = "7" * digits
            for text in (f"A2 1,0/0,1 {number} 1,1,1", f"A2 1,0/0,1 1 {number},0,1", f"A2 1,0/0,1 1 0,1,{number}"):
                self.check_address(text)
        for digits in (60, 61):
            self.check_address("A2 1,{0}/0,1 1 1,1,1".format("9" * digits))
            self.check_address("A2 -{0},1/1,0 1 1,1,1".format("9" * digits))

    def test_19_3_other_addresses(self):
        for text in ("", "A", "D", "A5 ", "D2", "E8", "a2", "A2", "A2 ", "A2  ", "A2 1,0/0,1", "A2 1,0/0,1 ", "A2 1,0/0,1 0 1,1,1", "A2 1,0/0,1 -1 1,1,1",
                     "A2 1,0/0,1 1 1,1", "A2 1,0/0,1 1 1,1,1,1", "A2 1,0/0,1 1 1,-1,1", "A2 1,0/0,1 1 01,1,1", "A2 1,0/0,1 1 1,1,1 ", "A2 1,0,0/0,1,0/0,0,1 1",
                     "A3 1,0/0,1 1 1,1,1", "A2 1,0/0,1  1 1,1,1", " A2 1,0/0,1 1 1,1,1", "A2\t1,0/0,1 1 1,1,1", "D4 1,0,0/", "A4 1,0,0,0,", "A2 2,0/0,1 1 1,1,1",
                     "A2 0,0/0,0 1 0,0,0", "A2 1,0/0,1 00 1,1,1", "A2 1,0/0,1 10 00,1,1"):
            self.check_address(text)

    def test_no_strings(self):
        for wrong in WRONG + (b"2,1/1,2", PLANE, Copy.first(2)):
            if isinstance(wrong, str):
                continue
            for read in (read_form, read_matrix, read_address):
                error = outcome(read, wrong)
                self.assertTrue(type(error) is ParseError and error.index is None)

    def test_order_of_errors(self):
        # What is no text is told ahead of what is no form.
        error = outcome(read_form, "1,2/2,1x")
        self.assertTrue(type(error) is ParseError and error.index == 7)
        self.assertIs(type(outcome(read_form, "1,2/3,9")), InvalidForm)
        self.assertIs(type(outcome(read_form, "0,0/0,0")), InvalidForm)
        self.assertIs(type(outcome(read_matrix, "2,0/0,2")), InvalidMatrix)
        error = outcome(read_address, "A2 2,0/0,2 1 1,1")
        self.assertTrue(type(error) is ParseError and error.index == 16)
        self.assertIs(type(outcome(read_address, "A2 2,0/0,2 1 1,1,1")), InvalidMatrix)


class Both(unittest.TestCase):
    def test_19_4_there_and_back(self):
        chance = chance_of(705)
        for form in many_forms(706, 20) + [Form.diagonal(MOST, 1), Form.diagonal(1, 1, 1, MOST)]:
            self.assertEqual(read_form(write_form(form)), form)
            for digits in (3, 20, 60):
                matrix = far_matrix(chance, form.size, digits)
                self.assertEqual(read_matrix(write_matrix(matrix)), matrix)
            found = address(form)
            told = read_address(write_address(found))
            self.assertTrue(told == found)
            self.assertEqual((told[0].name, told[0].matrix), (found[0].name, found[0].matrix))
            self.assertIs(is_address(form, told), True)
        # Integers that are too long are written, and not read.
        far = Copy("A2", ((1, MOST), (0, 1))).led(((1, MOST), (0, 1)))
        text = write_address((far, 1, (1, 1, 1)))
        error = outcome(read_address, text)
        self.assertTrue(type(error) is ParseError and error.index == 5 + 60)

    def test_equal_calls(self):
        for form in FORMS:
            text = write_form(form)
            self.assertEqual(text, write_form(form))
            self.assertEqual(read_form(text), read_form(text))


if __name__ == "__main__":
    unittest.main()
