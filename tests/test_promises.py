"""Promises about forms, and papers against them [18.1], [18.2]."""

import unittest
from fractions import Fraction

from ballgrids.alike.alikes import multiple_between
from ballgrids.cone.told import NAMES, Copy, told_form
from ballgrids.desk.promises import does_hold, is_paper_against, is_promise, paper_against
from ballgrids.errors import InvalidForm, InvalidNumber, InvalidPromise
from ballgrids.form.forms import Form
from ballgrids.short.rows import density, least_rows, least_value, rows_up_to
from ballgrids.span.spans import base_of_zeros, blanks, is_perfect
from tests.helper import (
    BODY, CUBE, FACED, FORMS, FOURTH, GRID, LONG, MOST, PLANE, TWENTY_FOUR, WRONG, chance_of, far_matrix, many_forms,
    multiple, outcome, value)

SIZE = {"A2": 2, "A3": 3, "A4": 4, "D4": 4}


def promises_about(form):
    """Promises of all kinds at the bound at which they still hold, and one beyond."""
    least, (top, bottom), count = least_value(form), density(form), len(least_rows(form))
    above, below = Fraction(top, bottom) + Fraction(1, 10 ** 20), Fraction(top, bottom) - Fraction(1, 10 ** 20)
    found = [(("least", number), number <= least) for number in (1, least, least + 1, MOST)]
    found += [(("density", top, bottom), True), (("density", 1, MOST), True), (("density", MOST, 1), False)]
    if max(above.numerator, below.numerator, above.denominator, below.denominator) < LONG:
        found += [(("density", above.numerator, above.denominator), False), (("density", below.numerator, below.denominator), True)]
    found += [(("contacts", number), number <= count) for number in range(1, 13)]
    found.append((("perfect",), is_perfect(form)))
    found += [
        (("alike", name), multiple_between(form, told_form(name)) is not None) for name in NAMES if SIZE[name] == form.size]
    return found


def all_forms(seed, count):
    forms = many_forms(seed, count, 2)
    return forms + [told_form(name) * 7 for name in NAMES] + [form.adjoint for form in FORMS]


class Judging(unittest.TestCase):
    RIGHT = (("least", 1), ("least", MOST), ("density", 1, 1), ("density", 4, 3), ("density", 1, MOST), ("density", MOST, 1),
             ("contacts", 1), ("contacts", 12), ("perfect",))
    NEVER = (
        (), "perfect", ["perfect"], ("perfect", 1), ("perfect", ()), ("perfect", None), ("least",), ("least", 0), ("least", -1),
        ("least", True), ("least", LONG), ("least", "1"), ("least", (1,)), ("least", None), ("least", 1, 1), ["least", 1],
        ("density",), ("density", 1), ("density", (4, 3)), ("density", 2, 2), ("density", 4, 2), ("density", 0, 1), ("density", -1, 2),
        ("density", 1, 0), ("density", 1, -2), ("density", True, 1), ("density", 1, True), ("density", LONG, 1), ("density", 1, LONG),
        ("density", 1, 1, 1), ("density", "4", "3"), ("density", 4, None), ("contacts",), ("contacts", 0), ("contacts", 13),
        ("contacts", True), ("contacts", -3), ("contacts", "3"), ("contacts", 1, 2), ("contacts", [1]), ("alike",), ("alike", "E8"),
        ("alike", None), ("alike", "a2"), ("alike", ("A2",)), ("alike", ["A2"]), ("alike", "A2", "A2"), ("alike", 2), ("alike", PLANE),
        ("Least", 1), ("less", 1), ("", 1), (None, 1), (1, 1), (True,), ("Perfect",), (PLANE,), ("row", (1, 0)), (("least", 1),),
        (["least"], 1), ({}, 1), ("perfect", "perfect"), {"least": 1}, ("least", PLANE), (PLANE, 1))

    def test_18_1_promises(self):
        for size in (2, 3, 4):
            for right in self.RIGHT:
                self.assertIs(is_promise(size, right), True)
            for name in NAMES:
                self.assertIs(is_promise(size, ("alike", name)), SIZE[name] == size)
            for wrong in self.NEVER + WRONG:
                self.assertIs(is_promise(size, wrong), False, wrong)

    def test_wrong_sizes(self):
        for wrong in (True, None, 0, 1, 5, LONG, "2", (2,), PLANE):
            for value_ in (("perfect",), None):
                error = outcome(is_promise, wrong, value_)
                self.assertTrue(type(error) is InvalidNumber and error.given is wrong)

    def test_wrong_arguments(self):
        for wrong in WRONG + (PLANE.table, Copy.first(2)):
            if isinstance(wrong, Form):
                continue
            for promise in (("perfect",), None):
                self.assertIs(type(outcome(does_hold, wrong, promise)), InvalidForm)
                self.assertIs(type(outcome(paper_against, wrong, promise)), InvalidForm)
                self.assertIs(type(outcome(is_paper_against, wrong, promise, None)), InvalidForm)
        for form in (PLANE, BODY, GRID):
            others = tuple(("alike", name) for name in NAMES if SIZE[name] != form.size)
            for wrong in self.NEVER + WRONG + others:
                self.assertIs(type(outcome(does_hold, form, wrong)), InvalidPromise)
                self.assertIs(type(outcome(paper_against, form, wrong)), InvalidPromise)
                for value_ in (None, ("row", (1, 0))):
                    self.assertIs(type(outcome(is_paper_against, form, wrong, value_)), InvalidPromise)


class Holding(unittest.TestCase):
    def test_18_1_what_holds(self):
        seen = set()
        for form in all_forms(501, 12):
            for promise, wanted in promises_about(form):
                self.assertIs(does_hold(form, promise), wanted, (str(form), promise))
                seen.add((promise[0], wanted, form.size))
        self.assertEqual(len(seen), 30)

    def test_18_2_papers(self):
        for form in all_forms(502, 12):
            for promise, holds in promises_about(form):
                paper = paper_against(form, promise)
                self.assertEqual(paper is None, holds)
                if not holds:
                    self.check_paper(form, promise, paper)
                    self.assertIs(is_paper_against(form, promise, paper), True)

    def check_paper(self, form, promise, paper):
        self.assertIs(type(paper), tuple)
        word, told = paper
        if promise[0] == "least":
            self.assertEqual(word, "row")
            self.assertTrue(any(told) and value(form.table, told) < promise[1])
        elif promise[0] == "density":
            self.assertEqual(word, "row")
            self.assertTrue(any(told))
            self.assertLess(value(form.table, told) ** form.size * promise[2], promise[1] * form.determinant)
        elif promise[0] == "contacts" or (promise[0] == "alike" and is_perfect(form)):
            self.assertEqual(paper, ("rows", least_rows(form)))
        else:
            self.assertEqual(word, "blank")
            self.assertTrue(any(map(any, told)) and all(value(told, row) == 0 for row in least_rows(form)))

    def test_no_papers_against_what_holds(self):
        for form in all_forms(503, 6):
            rows = least_rows(form)
            tables = blanks(form) or (form.table,)
            for promise, holds in promises_about(form):
                if holds:
                    for paper in (("rows", rows), ("row", rows[0]), ("blank", tables[0]), ("blank", form.table), None):
                        if paper and paper[0] == "blank" and blanks(form) and promise[0] not in ("perfect", "alike"):
                            self.assertIs(is_paper_against(form, promise, paper), False)
                        else:
                            self.assertIs(is_paper_against(form, promise, paper), False, (str(form), promise, paper))

    def test_18_2_rows(self):
        # All rows with values below, normal or not, and no others.
        for form in (PLANE, CUBE, BODY, FACED, GRID):
            for promise in (("least", 7), ("density", 5, 1), ("density", 3, 2)):
                for row in rows_up_to(form, 9):
                    number = form.value(row)
                    below = number < 7 if promise[0] == "least" else number ** form.size * promise[2] < promise[1] * form.determinant
                    for told in (row, tuple(-n for n in row)):
                        self.assertIs(is_paper_against(form, promise, ("row", told)), below)
        self.assertIs(is_paper_against(PLANE, ("least", MOST), ("row", (0, 0))), False)
        self.assertIs(is_paper_against(PLANE, ("density", MOST, 1), ("row", (0, 0))), False)

    def test_18_2_least_rows(self):
        for form in (PLANE, BODY, FACED, FOURTH, TWENTY_FOUR, GRID):
            rows = least_rows(form)
            promise = ("contacts", len(rows) + 1)
            if len(rows) == 12:
                continue
            self.assertIs(is_paper_against(form, promise, ("rows", rows)), True)
            for wrong in (rows[::-1], rows[1:], rows + rows[-1:], list(rows), tuple(tuple(-n for n in row) for row in rows), (),
                          rows[:-1] + ((5,) * form.size,), tuple(map(list, rows)), rows[0], None,
                          tuple(tuple(bool(n) if n in (0, 1) else n for n in row) for row in rows)):
                self.assertIs(is_paper_against(form, promise, ("rows", wrong)), False)
            self.assertIs(is_paper_against(form, ("contacts", len(rows)), ("rows", rows)), False)
        self.assertIs(is_paper_against(FOURTH, ("alike", "D4"), ("rows", least_rows(FOURTH))), True)
        self.assertIs(is_paper_against(FOURTH, ("alike", "A4"), ("rows", least_rows(FOURTH))), False)
        self.assertIs(is_paper_against(TWENTY_FOUR, ("alike", "A4"), ("rows", least_rows(TWENTY_FOUR))), True)
        self.assertIs(is_paper_against(GRID, ("alike", "A4"), ("rows", least_rows(GRID))), False)
        self.assertIs(is_paper_against(GRID, ("perfect",), ("rows", least_rows(GRID))), False)

    def test_18_2_blank_tables(self):
        chance = chance_of(504)
        for form in (CUBE, BODY, GRID, Form.diagonal(1, 2), Form(((5, 1, 2, 0), (1, 6, 1, 1), (2, 1, 7, 3), (0, 1, 3, 8)))):
            names = [name for name in NAMES if SIZE[name] == form.size]
            for promise in [("perfect",)] + [("alike", name) for name in names]:
                for table in base_of_zeros(form.size, least_rows(form)):
                    for number in (1, -1, chance.randint(2, 99), LONG ** 7):
                        self.assertIs(is_paper_against(form, promise, ("blank", multiple(table, number))), True)
                    for wrong in (multiple(table, 0), form.table, list(table), tuple(map(list, table)), table[0], None,
                                  tuple(tuple(bool(n) if n in (0, 1) else n for n in row) for row in table)):
                        self.assertIs(is_paper_against(form, promise, ("blank", wrong)), False)
        for form in (PLANE, FACED, FOURTH, TWENTY_FOUR):
            zero = multiple(form.table, 0)
            for promise in [("perfect",)] + [("alike", name) for name in NAMES if SIZE[name] == form.size]:
                for table in (zero, form.table):
                    self.assertIs(is_paper_against(form, promise, ("blank", table)), False)

    def test_wrong_papers(self):
        for form in (PLANE, CUBE, GRID):
            table = (blanks(form) or (form.table,))[0]
            for promise in (("least", 99), ("density", 99, 1), ("contacts", 12), ("perfect",)):
                paper = paper_against(form, promise)
                for wrong in WRONG + (
                        ("row",), ("rows",), ("blank",), ("row", None), ("rows", None), ("blank", None), ("Row", least_rows(form)[0]),
                        (None, least_rows(form)[0]), ("column", least_rows(form)), (least_rows(form)[0], "row"), [paper],
                        ("row", least_rows(form)[0] + (0,)), ("row", list(least_rows(form)[0])), ("row", PLANE), ("blank", PLANE)):
                    self.assertIs(is_paper_against(form, promise, wrong), False)
                if paper is not None:
                    self.assertIs(is_paper_against(form, promise, list(paper)), False)
                    self.assertIs(is_paper_against(form, promise, paper + (1,)), False)
                    self.assertIs(is_paper_against(form, promise, paper[::-1]), False)
                    for word in ("row", "rows", "blank"):
                        self.assertIs(is_paper_against(form, promise, (word, paper[1])), word == paper[0])
                if promise[0] != "perfect":
                    self.assertIs(is_paper_against(form, promise, ("blank", table)), False)

    def test_long_integers(self):
        chance = chance_of(505)
        for form in FORMS:
            far = form.led(far_matrix(chance, form.size, 60)).led(far_matrix(chance, form.size, 60))
            for promise, holds in promises_about(form):
                self.assertIs(does_hold(far, promise), holds)
                paper = paper_against(far, promise)
                self.assertEqual(paper is None, holds)
                if paper is not None:
                    self.assertIs(is_paper_against(far, promise, paper), True)
        far = PLANE.led(((1, MOST), (0, 1))).led(((1, MOST), (0, 1)))
        self.assertIs(is_paper_against(far, ("least", 3), ("row", (-2 * MOST, 1))), True)
        self.assertIs(is_paper_against(far, ("least", 3), ("row", (1 - 2 * MOST, 1))), False)
        self.assertIs(is_paper_against(PLANE, ("least", 3), ("row", (LONG ** 3, 1))), False)

    def test_papers_have_few_digits(self):
        chance = chance_of(506)
        for size in (2, 3, 4):
            form = Form.diagonal(*range(1, size + 1)).led(far_matrix(chance, size, 28))
            for promise, holds in promises_about(form):
                if not holds:
                    word, told = paper_against(form, promise)
                    numbers = told if word == "row" else [n for row in told for n in row]
                    self.assertLess(max(map(abs, numbers)), 10 ** 400)

    def test_equal_calls(self):
        for form in FORMS:
            before = str(form)
            for promise, _ in promises_about(form):
                self.assertEqual(paper_against(form, promise), paper_against(form, promise))
            self.assertEqual(str(form), before)


if __name__ == "__main__":
    unittest.main()
