"""Desks and batches of deeds [18.3] to [18.5]."""

import math
import unittest

from ballgrids.cone.told import Copy
from ballgrids.desk.desks import MAX_DEEDS, MAX_INDEX, MAX_PROMISES, Batch, Desk
from ballgrids.desk.promises import does_hold, is_paper_against, is_promise
from ballgrids.errors import (
    InvalidForm, InvalidNumber, InvalidOperation, InvalidPromise, NothingToUndo, Refused, TooMany, UnknownName)
from ballgrids.form.forms import Form, is_positive
from ballgrids.short.rows import least_rows
from tests.helper import (
    BODY, CUBE, FACED, FORMS, GRID, LONG, MOST, PLANE, TWENTY_FOUR, WRONG, adjoint, chance_of, det, far_matrix, led, multiple,
    outcome, pairing, some_matrix, unit)

TURN = ((1, 1), (0, 1))
WRONG_DEEDS = (
    (), "cleared", ["cleared"], ("cleared", 1), ("cleared", ()), ("cleared", None), ("adjoint", 1), ("adjoint", "adjoint"), ("led",),
    ("led", None), ("led", ((2, 0), (0, 1))), ("led", [[1, 0], [0, 1]]), ("led", ((1, 0), [0, 1])), ("led", ((1, 0), (0, True))),
    ("led", ((1, LONG), (0, 1))), ("led", ((1, 0, 0), (0, 1, 0))), ("led", TURN, TURN), ["led", TURN], ("Led", TURN), ("plus",),
    ("plus", ((1, 0), (1, 1))), ("plus", ((1, 0), (0, LONG))), ("plus", PLANE), ("plus", 1), ("plus", ((1, 0),)),
    ("plus", ((1, False), (False, 1))), ("times",), ("times", 0), ("times", 1001), ("times", True), ("times", -1), ("times", "2"),
    ("times", (2,)), ("times", 2, 2), ("part",), ("part", ((1, 0), (2, 0))), ("part", ((21, 0), (0, 1))), ("part", ((1, 0), (0, LONG))),
    ("part", ((3, 0), (0, 7))), ("part", ((1, 0), (0, True))), ("part", [(1, 0), (0, 1)]), ("part", ((1, 0),)), ("part", 3),
    ("square", TURN), ("", TURN), (None, TURN), (TURN, "led"), (PLANE,), (("cleared",),), (["led"], TURN), {"led": TURN}, ("cleared", "adjoint"))


def slow_deed(table, deed):
    word, size = deed[0], range(len(table))
    if word == "led":
        return led(table, deed[1])
    if word == "plus":
        return tuple(tuple(a + b for a, b in zip(*rows)) for rows in zip(table, deed[1]))
    if word == "times":
        return multiple(table, deed[1])
    if word == "adjoint":
        return adjoint(table)
    if word == "part":
        return tuple(tuple(pairing(table, deed[1][i], deed[1][j]) for j in size) for i in size)
    divisor = math.gcd(*[n for row in table for n in row])
    return tuple(tuple(n // divisor for n in row) for row in table)


def some_deed(chance, size):
    kind = chance.choice(("led", "plus", "times", "cleared", "adjoint", "part"))
    if kind == "led":
        return ("led", some_matrix(chance, size, 3, 2))
    if kind == "plus":
        numbers = {(min(i, j), max(i, j)): chance.randint(-1, 3) if i == j else chance.randint(-1, 1)
                   for i in range(size) for j in range(size)}
        return ("plus", tuple(tuple(numbers[min(i, j), max(i, j)] for j in range(size)) for i in range(size)))
    if kind == "times":
        return ("times", chance.randint(1, 5))
    if kind == "part":
        while True:
            rows = tuple(tuple(chance.randint(-2, 2) for _ in range(size)) for _ in range(size))
            if 1 <= abs(det(rows)) <= 20:
                return ("part", rows)
    return (kind,)


def state(desk):
    return (desk.form.table, desk.promises, desk.version)


class Deeds(unittest.TestCase):
    def check_refused(self, call, arguments, reason):
        error = outcome(call, *arguments)
        self.assertIs(type(error), Refused, (arguments, error))
        self.assertEqual(error.reason, reason)

    def test_18_3_each_deed(self):
        chance = chance_of(601)
        seen = set()
        for form in FORMS:
            for _ in range(40):
                deed = some_deed(chance, form.size)
                desk = Desk(form)
                made = slow_deed(form.table, deed)
                if not is_positive(form.size, made):
                    self.check_refused(desk.do, ((deed,),), ("deed", 0, "flat"))
                    self.assertEqual(state(desk), (form.table, (), 0))
                    seen.add("flat")
                    continue
                self.assertEqual(desk.do((deed,)), int(made != form.table))
                self.assertEqual(desk.form.table, made)
                seen.add(deed[0])
        self.assertEqual(len(seen), 7)

    def test_18_3_many_deeds(self):
        chance = chance_of(602)
        for form in FORMS:
            for many in (2, 3, 20):
                desk, table, deeds = Desk(form), form.table, []
                while len(deeds) < many:
                    deed = some_deed(chance, form.size)
                    made = slow_deed(table, deed)
                    if is_positive(form.size, made) and max(map(max, made)) < 10 ** 20:
                        deeds.append(deed)
                        table = made
                self.assertEqual(desk.do(tuple(deeds)), int(table != form.table))
                self.assertEqual(desk.form.table, table)
                for wrong in (tuple(deeds) + (("cleared",),) * (21 - many), list(deeds), ()):
                    self.assertIs(type(outcome(Desk(form).do, wrong)), InvalidOperation)

    def test_18_3_bounds(self):
        self.assertEqual((MAX_PROMISES, MAX_DEEDS, MAX_INDEX), (8, 20, 20))
        desk = Desk(PLANE)
        self.assertEqual(desk.do((("times", 1000),)), 1)
        self.assertEqual(desk.do((("part", ((20, 7), (0, -1))),)), 2)
        self.assertEqual(desk.do((("part", ((20, 0), (0, 1))), ("cleared",)) * 10), 3)
        for wrong in (("times", 1001), ("part", ((21, 0), (0, 1))), ("part", ((7, 0), (0, 3)))):
            self.assertIs(type(outcome(desk.do, (wrong,))), InvalidOperation)
        self.assertEqual(desk.version, 3)

    def test_18_3_flat_and_great(self):
        great = Form(((MOST, 0), (0, MOST)))
        for form, deeds, reason in (
                (PLANE, (("plus", ((-2, 0), (0, 0))),), ("deed", 0, "flat")), (PLANE, (("plus", ((0, -3), (-3, 0))),), ("deed", 0, "flat")),
                (PLANE, (("plus", ((-1, 0), (0, -1))),), ("deed", 0, "flat")),
                (PLANE, (("times", 2), ("plus", ((-4, 0), (0, 0)))), ("deed", 1, "flat")),
                (great, (("times", 2),), ("deed", 0, "great")), (great, (("plus", ((1, 0), (0, 0))),), ("deed", 0, "great")),
                (great, (("times", 1), ("adjoint",), ("led", TURN)), ("deed", 2, "great")),
                (CUBE * MOST, (("adjoint",),), ("deed", 0, "great")), (great, (("part", ((2, 0), (0, 1))),), ("deed", 0, "great")),
                # Both words apply here, and the first one is told.
                (great, (("plus", ((MOST, MOST), (MOST, -MOST))),), ("deed", 0, "flat")),
                (PLANE, (("times", 2), ("times", 3), ("plus", ((-99, 0), (0, 0))), ("times", 2)), ("deed", 2, "flat"))):
            desk = Desk(form)
            self.check_refused(desk.do, (deeds,), reason)
            self.check_refused(desk.would, (deeds,), reason)
            self.assertEqual(state(desk), (form.table, (), 0))
        self.assertEqual(Desk(great).do((("plus", ((-1, 0), (0, 0))),)), 1)

    def test_18_3_far_forms(self):
        # A form that was returned can have longer integers; what a deed makes of it cannot.
        far = PLANE.led(((1, MOST), (0, 1)))
        desk = Desk(far)
        self.check_refused(desk.do, ((("times", 1),),), ("deed", 0, "great"))
        self.check_refused(desk.do, ((("cleared",),),), ("deed", 0, "great"))
        self.assertEqual(desk.do((("led", ((1, -MOST), (0, 1))),)), 1)
        self.assertEqual(desk.form, PLANE)
        self.assertEqual((desk.undo(), desk.form == far), (0, True))

    def test_wrong_deeds(self):
        for wrong in WRONG_DEEDS + WRONG:
            desk = Desk(PLANE)
            for call in (desk.do, desk.would):
                self.assertIs(type(outcome(call, (wrong,))), InvalidOperation, wrong)
                self.assertIs(type(outcome(call, (("times", 2), wrong))), InvalidOperation)
                # A wrong deed comes ahead of one that fails.
                self.assertIs(type(outcome(call, (("plus", ((-9, 0), (0, 0))), wrong))), InvalidOperation)
            batch = desk.batch()
            self.assertIs(type(outcome(batch.put, wrong)), InvalidOperation, wrong)
            self.assertTrue(batch.is_open)
            self.assertEqual(state(desk), (PLANE.table, (), 0))
        for wrong in WRONG + ((("times", 2),) * 21, [("times", 2)], ("times", 2), {("times", 2): 1}):
            self.assertIs(type(outcome(Desk(PLANE).do, wrong)), InvalidOperation)
            self.assertIs(type(outcome(Desk(PLANE).would, wrong)), InvalidOperation)
        for deed in (("led", TURN), ("plus", PLANE.table), ("part", TURN)):
            self.assertIs(type(outcome(Desk(CUBE).do, (deed,))), InvalidOperation)
        self.assertIs(type(outcome(Desk(PLANE).do, (("led", unit(3)),))), InvalidOperation)


class Desks(unittest.TestCase):
    def test_18_4_versions(self):
        desk = Desk(BODY)
        self.assertEqual(state(desk), (BODY.table, (), 0))
        self.assertIs(desk.promise(("least", 3)), True)
        self.assertIs(desk.promise(("least", 3)), False)
        self.assertEqual(state(desk), (BODY.table, (("least", 3),), 1))
        self.assertEqual(desk.do((("times", 2),)), 2)
        self.assertEqual(desk.do((("times", 1), ("led", unit(3)))), 2)
        self.assertEqual(desk.do((("times", 2), ("cleared",), ("times", 2))), 2)
        self.assertIs(desk.promise(("contacts", 4)), True)
        self.assertEqual(desk.drop(("least", 3)), 4)
        self.assertEqual(state(desk), ((BODY * 2).table, (("contacts", 4),), 4))
        self.assertEqual(desk.do((("cleared",),)), 5)
        known = [
            (BODY.table, ()), (BODY.table, (("least", 3),)), ((BODY * 2).table, (("least", 3),)),
            ((BODY * 2).table, (("least", 3), ("contacts", 4))), ((BODY * 2).table, (("contacts", 4),)), (BODY.table, (("contacts", 4),))]
        for version, (table, promises) in enumerate(known):
            other = desk.at(version)
            self.assertEqual(state(other), (table, promises, 0))
            self.assertEqual(other.do((("led", ((1, 1, 0), (0, 1, 0), (0, 0, 1))),)), 1)
            self.assertEqual(other.undo(), 0)
            self.assertIs(type(outcome(other.undo)), NothingToUndo)
        self.assertEqual(desk.undo(2), 3)
        self.assertEqual(state(desk), known[3] + (3,))
        self.assertEqual(desk.undo(), 2)
        self.assertEqual(desk.undo(count=1), 1)
        self.assertIs(type(outcome(desk.at, 2)), InvalidNumber)
        self.assertEqual(desk.do((("times", 7),)), 2)
        self.assertEqual(desk.undo(2), 0)
        self.assertEqual(state(desk), known[0] + (0,))

    def test_18_4_broken_promises(self):
        desk = Desk(CUBE)
        promises = (("least", 1), ("contacts", 3), ("density", 1, 1))
        self.assertEqual([desk.promise(promise) for promise in promises], [True] * 3)
        before = state(desk)
        deed = ("plus", ((1, 0, 0), (0, 0, 0), (0, 0, 0)))
        error = outcome(desk.do, (deed,))
        self.assertIs(type(error), Refused)
        self.assertEqual(error.reason[:2], ("broken", ("contacts", 3)))
        self.assertIs(type(error.reason), tuple)
        self.assertEqual(len(error.reason), 3)
        behind = Form(((2, 0, 0), (0, 1, 0), (0, 0, 1)))
        self.assertIs(is_paper_against(behind, error.reason[1], error.reason[2]), True)
        self.assertEqual(state(desk), before)
        self.assertEqual(desk.would((deed,)), (("contacts", 3), ("density", 1, 1)))
        # Between the deeds promises can be broken, if they hold behind them.
        self.assertEqual(desk.do((deed, ("plus", ((0, 0, 0), (0, 1, 0), (0, 0, 1))), ("times", 2))), 4)
        self.assertEqual(desk.form, CUBE * 4)
        self.assertEqual(desk.would((deed,)), (("contacts", 3), ("density", 1, 1)))
        # A deed that fails comes ahead of a broken promise.
        error = outcome(desk.do, (("cleared",), deed, ("plus", ((0, 0, 0), (0, -5, 0), (0, 0, 0)))))
        self.assertEqual(error.reason, ("deed", 2, "flat"))
        # The promises keep their order, and the first broken one is told.
        self.assertEqual(desk.drop(("least", 1)), 5)
        self.assertTrue(desk.promise(("least", 4)))
        error = outcome(desk.do, (("cleared",), deed))
        self.assertEqual(error.reason[1], ("contacts", 3))
        error = outcome(desk.do, (("cleared",),))
        self.assertEqual(error.reason[:2], ("broken", ("least", 4)))
        self.assertEqual(desk.promises, (("contacts", 3), ("density", 1, 1), ("least", 4)))

    def test_18_4_promises(self):
        for form in FORMS:
            desk = Desk(form)
            for promise in (("least", 99), ("density", 99, 1), ("contacts", 12), ("perfect",), ("alike", {2: "A2", 3: "A3", 4: "A4"}[form.size])):
                known = state(desk)
                answer = outcome(desk.promise, promise)
                if does_hold(form, promise):
                    self.assertIs(answer, True)
                    self.assertEqual(state(desk), (form.table, known[1] + (promise,), known[2] + 1))
                    self.assertIn(promise, desk)
                else:
                    self.assertIs(type(answer), Refused)
                    self.assertEqual(answer.reason[:2], ("broken", promise))
                    self.assertIs(is_paper_against(form, promise, answer.reason[2]), True)
                    self.assertEqual(state(desk), known)
                    self.assertNotIn(promise, desk)

    def test_18_4_nine_promises(self):
        desk = Desk(PLANE * 9)
        promises = [("least", number) for number in range(1, 9)]
        self.assertEqual([desk.promise(promise) for promise in promises], [True] * 8)
        error = outcome(desk.promise, ("least", 9))
        self.assertTrue(type(error) is TooMany and error.most == 8)
        self.assertIs(desk.promise(("least", 8)), False)
        self.assertIs(desk.promise(("least", 1)), False)
        # A promise that does not hold is refused ahead of that.
        self.assertIs(type(outcome(desk.promise, ("least", 19))), Refused)
        self.assertIs(type(outcome(desk.promise, ("least", 0))), InvalidPromise)
        self.assertEqual((desk.version, len(desk)), (8, 8))
        self.assertEqual(desk.drop(("least", 4)), 9)
        self.assertIs(desk.promise(("perfect",)), True)
        self.assertEqual(desk.promises, tuple(promises[:3] + promises[4:]) + (("perfect",),))
        self.assertIs(type(outcome(desk.promise, ("least", 4))), TooMany)

    def test_18_4_values(self):
        desk = Desk(PLANE)
        desk.promise(("density", 4, 3))
        self.assertEqual(str(desk), "desk of form 2 1/1 2, 1 promises")
        self.assertEqual(str(Desk(CUBE)), "desk of form 1 0 0/0 1 0/0 0 1, 0 promises")
        self.assertEqual((len(desk), list(desk), tuple(desk)), (1, [("density", 4, 3)], (("density", 4, 3),)))
        desk.promise(("contacts", 1))
        self.assertEqual(list(desk), [("density", 4, 3), ("contacts", 1)])
        self.assertIn(("contacts", 1), desk)
        for wrong in WRONG + (("contacts", True), ("contacts", 2), ["contacts", 1], ("density", 4), "contacts", desk, ("density", 8, 6)):
            self.assertIs(wrong in desk, False)
        for form in (PLANE, CUBE):
            self.assertTrue(Desk(form) == Desk(form))
        self.assertFalse(desk == Desk(PLANE))
        other = Desk(PLANE * 3)
        other.promise(("density", 4, 3))
        other.promise(("contacts", 1))
        self.assertFalse(desk == other)
        other.do((("cleared",),))
        self.assertTrue(desk == other and not desk != other)
        self.assertNotEqual(desk.version, other.version)
        turned = Desk(PLANE)
        turned.promise(("contacts", 1))
        turned.promise(("density", 4, 3))
        self.assertTrue(desk != turned)
        for wrong in WRONG:
            self.assertIs(desk == wrong, False)
            self.assertIs(desk != wrong, True)
            self.assertIs(wrong == desk, False)

    def test_18_4_nothing_is_shared(self):
        one = Desk(PLANE)
        one.promise(("perfect",))
        promises, form = one.promises, one.form
        other = one.at(1)
        one.do((("times", 3),))
        one.promise(("contacts", 3))
        self.assertEqual((promises, form), ((("perfect",),), PLANE))
        self.assertEqual(state(other), (PLANE.table, (("perfect",),), 0))
        other.drop(("perfect",))
        self.assertEqual(state(one), ((PLANE * 3).table, (("perfect",), ("contacts", 3)), 3))
        deeds = (("times", 2),)
        one.do(deeds)
        self.assertEqual(deeds, (("times", 2),))

    def test_errors(self):
        for wrong in WRONG + (PLANE.table, Copy.first(2), Desk(PLANE), ()):
            if not isinstance(wrong, Form):
                self.assertIs(type(outcome(Desk, wrong)), InvalidForm)
        desk = Desk(PLANE)
        desk.promise(("perfect",))
        desk.do((("times", 2),))
        before = state(desk)
        for wrong in WRONG + (("alike", "A3"), ("least", 0), "perfect", ["perfect"], ("perfect", 1)):
            for call in (desk.promise, desk.drop):
                self.assertIs(type(outcome(call, wrong)), InvalidPromise)
            self.assertIs(is_promise(2, wrong), False)
        for promise in (("least", 1), ("alike", "A2"), ("density", 4, 3)):
            error = outcome(desk.drop, promise)
            self.assertTrue(type(error) is UnknownName and error.wanted is promise)
        for wrong in WRONG + (0, -1, 3):
            if type(wrong) is int and wrong == 3:
                error = outcome(desk.undo, wrong)
                self.assertTrue(type(error) is NothingToUndo and error.steps == 3)
            elif not (type(wrong) is int and 0 < wrong < LONG):
                error = outcome(desk.undo, wrong)
                self.assertTrue(type(error) is InvalidNumber and error.given is wrong)
            if not (type(wrong) is int and 0 <= wrong <= 2):
                error = outcome(desk.at, wrong)
                self.assertTrue(type(error) is InvalidNumber and error.given is wrong)
        error = outcome(desk.undo, MOST)
        self.assertTrue(type(error) is NothingToUndo and error.steps == MOST)
        self.assertEqual(state(desk), before)


class Batches(unittest.TestCase):
    def check_closed(self, batch):
        self.assertIs(batch.is_open, False)
        for call, arguments in ((batch.put, (("cleared",),)), (batch.put, (None,)), (batch.end, ()), (batch.drop, ())):
            self.assertIs(type(outcome(call, *arguments)), InvalidOperation)
        with self.assertRaises(InvalidOperation):
            with batch:
                self.fail()
        self.assertIs(batch.is_open, False)
        self.assertIs(type(batch.form), Form)

    def check_locked(self, desk, known):
        for call in (desk.do, desk.promise, desk.drop, desk.undo):
            for value in ((("times", 2),), (("times", 2), None), None, 1, ("perfect",), ("least", 99), 0, 99):
                self.assertIs(type(outcome(call, value)), InvalidOperation)
        self.assertIs(type(outcome(desk.batch)), InvalidOperation)
        self.assertIs(type(outcome(desk.undo)), InvalidOperation)
        self.assertEqual(state(desk), known)
        self.assertEqual(desk.would((("cleared",),)), ())
        self.assertEqual(desk.at(0).version, 0)
        self.assertTrue(desk == desk.at(desk.version))
        self.assertEqual((len(desk), list(desk)), (len(known[1]), list(known[1])))

    def test_18_5_ended(self):
        desk = Desk(PLANE)
        desk.promise(("perfect",))
        batch = desk.batch()
        self.assertIs(type(batch), Batch)
        self.assertIs(batch.is_open, True)
        self.assertEqual(batch.form, PLANE)
        self.check_locked(desk, (PLANE.table, (("perfect",),), 1))
        self.assertEqual([batch.put(("times", 3)), batch.put(("plus", ((1, 0), (0, 0)))), batch.put(("cleared",))], [1, 2, 3])
        self.assertEqual(batch.form, Form(((7, 3), (3, 6))))
        self.check_locked(desk, (PLANE.table, (("perfect",),), 1))
        self.assertEqual(batch.put(("plus", ((-1, 0), (0, 0)))), 4)
        self.assertEqual(batch.end(), 2)
        self.assertEqual(state(desk), ((PLANE * 3).table, (("perfect",),), 2))
        self.assertEqual(batch.form, PLANE * 3)
        self.check_closed(batch)
        self.assertEqual(desk.do((("cleared",),)), 3)
        self.assertEqual(batch.form, PLANE * 3)
        self.assertEqual(desk.undo(2), 1)

    def test_18_5_dropped(self):
        desk = Desk(CUBE)
        batch = desk.batch()
        batch.put(("times", 5))
        self.assertIsNone(batch.drop())
        self.assertEqual(state(desk), (CUBE.table, (), 0))
        self.assertEqual(batch.form, CUBE * 5)
        self.check_closed(batch)
        other = desk.batch()
        self.assertIs(other.is_open, True)
        self.check_closed(batch)
        self.check_locked(desk, (CUBE.table, (), 0))
        self.assertEqual(other.end(), 0)

    def test_18_5_without_deeds(self):
        desk = Desk(CUBE)
        desk.do((("times", 2),))
        batch = desk.batch()
        self.assertEqual(batch.end(), 1)
        self.check_closed(batch)
        batch = desk.batch()
        batch.put(("times", 2))
        batch.put(("cleared",))
        batch.put(("times", 2))
        self.assertEqual((batch.end(), desk.version), (1, 1))

    def test_18_5_more_than_twenty(self):
        desk = Desk(PLANE)
        batch = desk.batch()
        shear = ("led", TURN)
        self.assertEqual([batch.put(shear) for _ in range(150)], list(range(1, 151)))
        self.assertEqual(batch.end(), 1)
        self.assertEqual(desk.form, PLANE.led(((1, 150), (0, 1))))
        self.assertEqual(desk.undo(), 0)

    def test_18_5_failing_deeds(self):
        desk = Desk(PLANE)
        batch = desk.batch()
        for many, (deed, word) in enumerate((
                (("plus", ((-2, 0), (0, 0))), "flat"), (("plus", ((MOST, 0), (0, 0))), "great"), (("plus", ((0, -99), (-99, 0))), "flat"))):
            error = outcome(batch.put, deed)
            self.assertIs(type(error), Refused)
            self.assertEqual(error.reason, ("deed", many, word))
            self.assertIs(batch.is_open, True)
            self.assertEqual(batch.put(("times", 2)), many + 1)
        self.assertEqual(batch.form, PLANE * 8)
        self.assertEqual(batch.end(), 1)

    def test_18_5_refused(self):
        desk = Desk(PLANE)
        desk.promise(("contacts", 2))
        desk.promise(("perfect",))
        batch = desk.batch()
        batch.put(("plus", ((1, 0), (0, 0))))
        error = outcome(batch.end)
        self.assertIs(type(error), Refused)
        self.assertEqual(error.reason[:2], ("broken", ("contacts", 2)))
        self.assertIs(is_paper_against(Form(((3, 1), (1, 2))), error.reason[1], error.reason[2]), True)
        self.assertEqual(state(desk), (PLANE.table, (("contacts", 2), ("perfect",)), 2))
        self.check_closed(batch)
        self.assertEqual(desk.do((("times", 2),)), 3)

    def test_18_5_with(self):
        desk = Desk(PLANE)
        with desk.batch() as batch:
            self.assertIs(batch.put(("times", 2)), 1)
            self.assertIs(type(outcome(desk.do, (("times", 2),))), InvalidOperation)
        self.check_closed(batch)
        self.assertEqual(state(desk), (PLANE.table, (), 0))
        with desk.batch() as batch:
            batch.put(("times", 2))
            self.assertEqual(batch.end(), 1)
        self.check_closed(batch)
        self.assertEqual(desk.form, PLANE * 2)
        with self.assertRaises(KeyError):
            with desk.batch() as batch:
                batch.put(("times", 2))
                raise KeyError("left")
        self.check_closed(batch)
        with self.assertRaises(Refused):
            with desk.batch() as batch:
                batch.put(("plus", ((-9, 0), (0, 0))))
        self.check_closed(batch)
        with desk.batch() as batch:
            batch.drop()
        self.assertEqual(state(desk), ((PLANE * 2).table, (), 1))
        made = desk.batch()
        with made as batch:
            self.assertIs(made, batch)
            with made as again:
                self.assertIs(again, batch)
            self.assertIs(batch.is_open, False)
        self.assertEqual(desk.do((("cleared",),)), 2)

    def test_18_5_two_desks(self):
        one, other = Desk(PLANE), Desk(PLANE)
        first, second = one.batch(), other.batch()
        first.put(("times", 2))
        self.assertEqual(second.put(("times", 3)), 1)
        self.assertEqual((first.end(), second.end()), (1, 1))
        self.assertEqual((one.form, other.form), (PLANE * 2, PLANE * 3))
        with one.batch() as batch:
            copy = one.at(1)
            self.assertEqual(copy.do((("times", 5),)), 1)
            batch.put(("cleared",))
        self.assertEqual(one.form, PLANE * 2)

    def test_iteration(self):
        for thing in (Desk(PLANE).batch(), PLANE):
            with self.assertRaises(TypeError):
                iter(thing)
        self.assertEqual(list(iter(Desk(PLANE))), [])


class Chances(unittest.TestCase):
    def test_any_calls(self):
        # A desk against the plainest one: a list of versions.
        chance = chance_of(603)
        for form in (PLANE, CUBE, FACED, TWENTY_FOUR, GRID):
            desk, known = Desk(form), [(form.table, ())]
            name = {2: "A2", 3: "A3", 4: "D4"}[form.size]
            promises = [("least", 1), ("least", 2), ("contacts", 1), ("contacts", 3), ("density", 1, 2), ("perfect",), ("alike", name)]
            for _ in range(150):
                table, made = known[-1]
                move = chance.choice(("do", "do", "promise", "drop", "undo"))
                if move == "do":
                    deed = some_deed(chance, form.size)
                    new = slow_deed(table, deed)
                    answer = outcome(desk.do, (deed,))
                    if not is_positive(form.size, new) or max(map(max, new)) >= LONG:
                        self.assertEqual(answer.reason[:2], ("deed", 0))
                    else:
                        broken = [promise for promise in made if not does_hold(Form(new), promise)]
                        if broken:
                            self.assertEqual(answer.reason[:2], ("broken", broken[0]))
                        elif new != table:
                            known.append((new, made))
                elif move == "promise":
                    promise = chance.choice(promises)
                    answer = outcome(desk.promise, promise)
                    if promise not in made and does_hold(Form(table), promise):
                        known.append((table, made + (promise,)))
                        self.assertIs(answer, True)
                elif move == "drop":
                    promise = chance.choice(promises)
                    answer = outcome(desk.drop, promise)
                    if promise in made:
                        known.append((table, tuple(told for told in made if told != promise)))
                        self.assertEqual(answer, len(known) - 1)
                else:
                    count = chance.randint(1, 4)
                    answer = outcome(desk.undo, count)
                    if count < len(known):
                        known = known[:len(known) - count]
                        self.assertEqual(answer, len(known) - 1)
                    else:
                        self.assertEqual((type(answer), answer.steps), (NothingToUndo, count))
                self.assertEqual(state(desk), known[-1] + (len(known) - 1,))
                self.assertEqual(state(desk.at(len(known) // 2)), known[len(known) // 2] + (0,))

    def test_far_forms(self):
        chance = chance_of(604)
        for form in FORMS:
            matrix = far_matrix(chance, form.size, 20)
            desk = Desk(form)
            desk.promise(("contacts", len(least_rows(form))))
            self.assertEqual(desk.do((("led", matrix),)), 2)
            self.assertEqual(desk.form, form.led(matrix))


if __name__ == "__main__":
    unittest.main()
