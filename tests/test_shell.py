"""The shell and its commands [19.5], [19.6]."""

import re
import unittest

from ballgrids.bound.bounds import bound
from ballgrids.cone.told import Copy
from ballgrids.desk.desks import Desk
from ballgrids.desk.promises import does_hold
from ballgrids.errors import InvalidForm, InvalidOperation
from ballgrids.form.forms import Form
from ballgrids.short.rows import density, least_rows, least_value
from ballgrids.span.spans import rank_of_squares
from ballgrids.text.formats import write_form
from ballgrids.text.shell import MAX_LINE, MAX_LINES, Shell
from ballgrids.weight.weights import critical_forms, level_number
from tests.helper import BODY, CUBE, FACED, FORMS, GRID, MOST, PLANE, TWENTY_FOUR, WRONG, chance_of, far_matrix, outcome

NUMBER = re.compile("0|[1-9][0-9]{0,2}")
WORD = re.compile("[A-Za-z0-9]{1,8}")
ENTRY = "(0|-?[1-9][0-9]{0,8})"
SQUARES = [re.compile("/".join([",".join([ENTRY] * size)] * size)) for size in (2, 3, 4)]
BARE = "show cleared adjoint promises open end cancel least contacts density bound level rank".split()
PROMISES = {"least": [NUMBER], "density": [NUMBER, NUMBER], "contacts": [NUMBER], "perfect": [], "alike": [WORD]}
RIGHT = (
    "show", "led 1,1/0,1", "plus 1,0/0,1", "times 2", "part 2,0/0,1", "cleared", "adjoint", "promise least 1", "promise density 4 3",
    "promise contacts 3", "promise perfect", "promise alike A2", "drop least 1", "drop density 4 3", "drop contacts 3", "drop perfect",
    "drop alike A2", "promises", "undo", "undo 2", "open", "end", "cancel", "ask least 3", "ask density 1 1", "ask contacts 12",
    "ask perfect", "ask alike A2", "least", "contacts", "density", "bound", "level", "rank")


def square_fits(piece):
    return any(square.fullmatch(piece) for square in SQUARES)


def wrong_piece(command):
    """The index that `wrong at` tells, or None, from the table of [19.5]."""
    pieces = command.split()
    if not pieces:
        return None
    head, rest = pieces[0], pieces[1:]
    if head in BARE:
        checks = []
    elif head in ("led", "plus", "part"):
        checks = [square_fits]
    elif head == "times":
        checks = [NUMBER.fullmatch]
    elif head == "undo":
        checks = [NUMBER.fullmatch] if rest else []
    elif head in ("promise", "drop", "ask"):
        checks = [lambda piece: piece in PROMISES]
        if rest and rest[0] in PROMISES:
            checks += [kind.fullmatch for kind in PROMISES[rest[0]]]
    else:
        return 0
    for index, check in enumerate(checks):
        if index >= len(rest) or not check(rest[index]):
            return index + 1
    return len(checks) + 1 if len(rest) > len(checks) else None


class Commands(unittest.TestCase):
    def test_19_5_each_command(self):
        for command in RIGHT:
            self.assertFalse(Shell(PLANE).say(command).startswith("wrong"), command)
            self.assertIsNone(wrong_piece(command))

    def test_19_6_wrong_pieces(self):
        others = ("", "x", "1", "0", "00", "01", "1000", "999", "-1", "1,1/0,1", "1,1/0", "1/0", "1,0/0,1234567890", "1,0/0,123456789",
                  "1,0/0,-123456789", "least", "density", "perfect", "A2", "E8", "abcdefgh", "abcdefghi", "A-2", "open", "show", "1.0",
                  "1,0,0/0,1,0/0,0,1", "1,0,0,0/0,1,0,0/0,0,1,0/0,0,0,1", "1,0,0/0,1,0", "Least", "%", "~", "_", "1,2/3,4,", "99/1,1")
        count = 0
        for command in RIGHT:
            pieces = command.split()
            for index in range(len(pieces) + 1):
                for piece in others:
                    for made in (pieces[:index] + [piece] + pieces[index:], pieces[:index] + [piece] + pieces[index + 1:], pieces[:index]):
                        text = " ".join(made)
                        wrong, answer = wrong_piece(text), Shell(PLANE).say(text)
                        if wrong is None:
                            self.assertFalse(answer.startswith("wrong"), (text, answer))
                        else:
                            self.assertEqual(answer, f"wrong at {wrong}", text)
                            count += 1
        self.assertGreater(count, 3000)

    def test_19_6_not_by_the_form(self):
        # What is wrong at a piece is the same for all forms; what does not fit the form is invalid.
        for form in FORMS:
            shell = Shell(form)
            for command, wanted in (
                    ("led 1,0", "wrong at 1"), ("led 1,0/0,1 2", "wrong at 2"), ("times x", "wrong at 1"), ("times", "wrong at 1"),
                    ("promise alike Z9", "invalid"), ("promise alike", "wrong at 2"), ("ask alike toolonger", "wrong at 2"),
                    ("promise density 1 0", "invalid"), ("promise density 2 2", "invalid"), ("promise density 0 1", "invalid"),
                    ("promise least 0", "invalid"), ("promise contacts 0", "invalid"), ("promise contacts 13", "invalid"),
                    ("drop contacts 13", "invalid"), ("ask contacts 13", "invalid"), ("ask least 0", "invalid"), ("times 0", "invalid"),
                    ("undo 0", "invalid"), ("part 0,0/0,0", "invalid"), ("led 2,0/0,2", "invalid"), ("plus 1,2/3,4", "invalid"),
                    ("drop least 1", "unknown"), ("drop perfect", "unknown"), ("undo", "no more"), ("undo 999", "no more"),
                    ("end", "no batch"), ("cancel", "no batch"), ("promises", "none"), ("show it", "wrong at 1"), ("shown", "wrong at 0"),
                    ("SHOW", "wrong at 0"), ("1,0/0,1", "wrong at 0"), ("undo x", "wrong at 1"), ("undo 1 1", "wrong at 2"),
                    ("end 1", "wrong at 1"), ("cancel now", "wrong at 1"), ("promise", "wrong at 1"), ("promise more", "wrong at 1")):
                self.assertEqual(shell.say(command), wanted, (str(form), command))
            self.assertEqual((shell.form, shell.promises, shell.version), (form, (), 0))
        for size, square in ((2, "1,0/0,1"), (3, "1,0,0/0,1,0/0,0,1"), (4, "1,0,0,0/0,1,0,0/0,0,1,0/0,0,0,1")):
            for form in FORMS:
                for word in ("led", "plus", "part"):
                    answer = Shell(form).say(f"{word} {square}")
                    self.assertEqual(answer == "invalid", form.size != size)

    def test_blanks(self):
        shell = Shell(PLANE)
        for command in ("", " ", "     ", " " * 2000):
            self.assertEqual(shell.say(command), "")
        self.assertEqual(len(shell), 4)
        for command in RIGHT:
            for made in (" " + command, command + "  ", command.replace(" ", "    "), "  " + command.replace(" ", "  ") + " "):
                self.assertEqual(Shell(PLANE).say(made), Shell(PLANE).say(command))
        self.assertEqual(shell.say("  undo   x y"), "wrong at 1")

    def test_no_commands(self):
        shell = Shell(PLANE)
        for wrong in WRONG + ("show\t", "\tshow", "show\n", "\n", "sh\u00f6w", "\u00a0", "\x7f", "\x1f", "a" * 2001, " " * 2001, b"show", ["show"],
                              ("show",), Copy.first(2)):
            if isinstance(wrong, str) and len(wrong) <= 2000 and all(" " <= sign <= "~" for sign in wrong):
                continue
            self.assertIs(type(outcome(shell.say, wrong)), InvalidOperation)
            self.assertIs(type(outcome(shell.run, ("times 2", wrong))), InvalidOperation)
        self.assertEqual((len(shell), shell.form, shell.version), (0, PLANE, 0))
        self.assertEqual(shell.say("show" + " " * 1996), "2,1/1,2")
        self.assertEqual(shell.say(" " * 1996 + "show"), "2,1/1,2")
        self.assertEqual(shell.say("~" * 2000), "wrong at 0")
        self.assertEqual((MAX_LINE, MAX_LINES), (2000, 100))

    def test_run(self):
        shell = Shell(PLANE)
        self.assertEqual(shell.run(()), ())
        self.assertEqual(shell.run(("times 2",) * 100), tuple(f"version {k}" for k in range(1, 101)))
        for wrong in (("times 2",) * 101, ["show"], "show", None, {0: "show"}, ("show", None), ("times 2", "a" * 2001), (("show",),)) + WRONG:
            if wrong == () or wrong == ("a", "b"):
                continue
            self.assertIs(type(outcome(shell.run, wrong)), InvalidOperation, wrong)
        self.assertEqual((len(shell), shell.version), (100, 100))
        self.assertEqual(shell.run(("", "x", "show y")), ("", "wrong at 0", "wrong at 1"))
        self.assertEqual(len(shell), 103)

    def test_squares(self):
        shell = Shell(PLANE)
        self.assertEqual(shell.say("plus 999999999,0/0,999999999"), "version 1")
        self.assertEqual(shell.say("plus 1000000000,0/0,1"), "wrong at 1")
        self.assertEqual(shell.say("plus -999999999,0/0,-999999999"), "version 2")
        self.assertEqual(shell.say("led 1,-999999999/0,1"), "version 3")
        self.assertEqual(shell.say("led 1,-1000000000/0,1"), "wrong at 1")
        self.assertEqual(shell.run(("undo 2", "show")), ("version 1", "1000000001,1/1,1000000001"))


class Answers(unittest.TestCase):
    def test_reading(self):
        for form in list(FORMS) + [form * 5 for form in critical_forms(4)] + [Form.diagonal(MOST, MOST)]:
            shell = Shell(form)
            wanted = [write_form(form), str(least_value(form)), str(len(least_rows(form)))]
            wanted += ["/".join(map(str, ratio if ratio[1] > 1 else ratio[:1])) for ratio in (density(form), bound(form))]
            wanted += [str(level_number(form)), str(rank_of_squares(form))]
            self.assertEqual(list(shell.run(("show", "least", "contacts", "density", "bound", "level", "rank"))), wanted)
            self.assertEqual((shell.version, shell.form), (0, form))
        self.assertEqual(Shell(FACED).say("density"), "2")
        self.assertEqual(Shell(BODY).run(("density", "bound")), ("27/16", "2"))

    def test_deeds(self):
        shell = Shell(PLANE)
        self.assertEqual(shell.run(("led 1,1/0,1", "times 999", "cleared", "times 1", "adjoint", "part 2,0/0,1", "plus 1,0/0,1", "show")), (
            "version 1", "version 2", "version 3", "version 3", "version 4", "version 5", "version 6", "25,-6/-6,3"))
        self.assertEqual(shell.say("plus -25,0/0,0"), "failed flat")
        self.assertEqual(shell.version, 6)
        great = Shell(Form.diagonal(MOST, MOST))
        self.assertEqual(great.run(("times 2", "adjoint", "cleared", "undo", "times 2", "open", "times 2", "cancel")), (
            "failed great", "version 0", "version 1", "version 0", "failed great", "open", "failed great", "dropped"))

    def test_promises(self):
        shell = Shell(PLANE)
        self.assertEqual(shell.run((
            "promises", "promise perfect", "promise least 2", "promise perfect", "promise density 4 3", "promise contacts 3",
            "promise alike A2", "promises", "promise least 3", "promise contacts 4", "promise density 3 2", "promise alike A3")), (
                "none", "new", "new", "there", "new", "new", "new", "perfect, least 2, density 4 3, contacts 3, alike A2", "broken least 3",
                "broken contacts 4", "broken density 3 2", "invalid"))
        self.assertEqual(shell.promises, (("perfect",), ("least", 2), ("density", 4, 3), ("contacts", 3), ("alike", "A2")))
        self.assertEqual(shell.run(("drop least 2", "drop least 2", "drop least 1", "drop alike A2", "promises", "version")), (
            "version 6", "unknown", "unknown", "version 7", "perfect, density 4 3, contacts 3", "wrong at 0"))
        self.assertEqual(shell.run(("plus 1,0/0,0", "drop perfect", "plus 1,0/0,0", "undo 9", "undo 8", "promises")), (
            "broken perfect", "version 8", "broken density 4 3", "no more", "version 0", "none"))

    def test_too_many(self):
        shell = Shell(PLANE * 10)
        self.assertEqual(shell.run(tuple(f"promise least {k}" for k in range(1, 11))), ("new",) * 8 + ("too many",) * 2)
        self.assertEqual(shell.run(("promise least 8", "promise least 21", "promise least 0")), ("there", "broken least 21", "invalid"))

    def test_ask(self):
        for form in FORMS:
            for text, promise in (
                    ("least 2", ("least", 2)), ("least 999", ("least", 999)), ("contacts 6", ("contacts", 6)), ("perfect", ("perfect",)),
                    ("density 3 2", ("density", 3, 2)), ("density 999 998", ("density", 999, 998))):
                self.assertEqual(Shell(form).say("ask " + text), "yes" if does_hold(form, promise) else "no")
            for name, size in (("A2", 2), ("A3", 3), ("A4", 4), ("D4", 4), ("E8", 0), ("1", 0), ("a2", 0)):
                wanted = "invalid" if form.size != size else "yes" if does_hold(form, ("alike", name)) else "no"
                self.assertEqual(Shell(form).say(f"ask alike {name}"), wanted)
        # For the form of the open batch, and not for that of the desk.
        shell = Shell(PLANE)
        self.assertEqual(shell.run(("ask least 3", "open", "times 2", "ask least 3", "least", "show", "cancel", "ask least 3", "least")), (
            "no", "open", "taken", "yes", "4", "4,2/2,4", "dropped", "no", "2"))

    def test_batches(self):
        shell = Shell(CUBE)
        self.assertEqual(shell.run((
            "promise contacts 3", "open", "plus 1,0,0/0,0,0/0,0,0", "contacts", "promises", "open", "promise perfect", "drop contacts 3", "undo",
            "undo 0", "drop perfect", "promise least 99", "plus -9,0,0/0,0,0/0,0,0", "times 0", "led 1,0/0,1")), (
                "new", "open", "taken", "2", "contacts 3", "invalid", "invalid", "invalid", "invalid", "invalid", "invalid", "invalid",
                "failed flat", "invalid", "invalid"))
        self.assertEqual(shell.form, Form.diagonal(2, 1, 1))
        self.assertEqual((shell.version, shell.promises), (1, (("contacts", 3),)))
        # The refused end closes the batch.
        self.assertEqual(shell.run(("end", "end", "cancel", "show")), ("broken contacts 3", "no batch", "no batch", "1,0,0/0,1,0/0,0,1"))
        self.assertEqual(shell.run(("open", "plus 1,0,0/0,0,0/0,0,0", "plus 0,0,0/0,1,0/0,0,1", "end", "undo")), (
            "open", "taken", "taken", "version 2", "version 1"))
        self.assertEqual(shell.run(("open", "end", "open", "times 1", "end", "open", "cancel", "undo")), (
            "open", "version 1", "open", "taken", "version 1", "open", "dropped", "version 0"))
        self.assertEqual(shell.run(("open",) + ("led 1,1,0/0,1,0/0,0,1",) * 40 + ("end", "show")), (
            ("open",) + ("taken",) * 40 + ("version 1", "1,40,0/40,1601,0/0,0,1")))

    def test_wrong_in_batches(self):
        # What is wrong at a piece comes ahead of what is open.
        shell = Shell(PLANE)
        self.assertEqual(shell.run(("open", "undo x", "promise", "end now", "cancel 1", "times", "open 1", "nothing", "", "end")), (
            "open", "wrong at 1", "wrong at 1", "wrong at 1", "wrong at 1", "wrong at 1", "wrong at 1", "wrong at 0", "", "version 0"))

    def test_values(self):
        shell = Shell(PLANE)
        self.assertEqual(str(shell), "shell of size 2 at version 0, 0 promises")
        shell.run(("promise perfect", "times 2", "open", "times 2", "nonsense", ""))
        self.assertEqual((len(shell), str(shell)), (6, "shell of size 2 at version 2, 1 promises"))
        self.assertEqual((shell.form, shell.promises, shell.version), (PLANE * 4, (("perfect",),), 2))
        self.assertEqual(str(Shell(TWENTY_FOUR)), "shell of size 4 at version 0, 0 promises")
        self.assertEqual(len(Shell(GRID)), 0)
        with self.assertRaises(TypeError):
            iter(shell)
        self.assertTrue(shell == shell and shell != Shell(PLANE))
        for wrong in WRONG:
            self.assertIs(shell == wrong, False)

    def test_wrong_forms(self):
        for wrong in WRONG + (PLANE.table, Desk(PLANE), Copy.first(2), "form 2 1/1 2"):
            if not isinstance(wrong, Form):
                self.assertIs(type(outcome(Shell, wrong)), InvalidForm)

    def test_nothing_is_shared(self):
        one, other = Shell(PLANE), Shell(PLANE)
        promises, form = one.promises, one.form
        one.run(("times 3", "promise perfect", "open"))
        self.assertEqual((promises, form), ((), PLANE))
        self.assertEqual((other.form, other.version, len(other)), (PLANE, 0, 0))
        self.assertEqual(other.say("end"), "no batch")
        commands = ("times 2", "undo")
        self.assertEqual(Shell(PLANE).run(commands), Shell(PLANE).run(commands))
        self.assertEqual(commands, ("times 2", "undo"))

    def test_far_forms(self):
        far = PLANE.led(far_matrix(chance_of(801), 2, 60)).led(far_matrix(chance_of(802), 2, 60))
        shell = Shell(far)
        self.assertEqual(shell.run(("show", "least", "density", "bound", "rank", "level", "ask perfect", "promise alike A2", "times 1")), (
            write_form(far), "2", "4/3", "4/3", "3", "2", "yes", "new", "failed great"))


class Chances(unittest.TestCase):
    def test_against_a_desk(self):
        # The same deeds, promises and ways back by commands and by calls.
        chance = chance_of(803)
        for form in (PLANE, CUBE, TWENTY_FOUR):
            shell, desk = Shell(form), Desk(form)
            square = {2: "1,1/0,1", 3: "1,0,2/0,1,0/0,0,1", 4: "1,0,0,0/0,1,3,0/0,0,1,0/0,0,0,1"}[form.size]
            matrix = tuple(tuple(map(int, row.split(","))) for row in square.split("/"))
            for _ in range(60):
                command, call = chance.choice((
                    (f"led {square}", lambda: desk.do((("led", matrix),))), (f"part {square}", lambda: desk.do((("part", matrix),))),
                    ("times 2", lambda: desk.do((("times", 2),))), ("cleared", lambda: desk.do((("cleared",),))),
                    ("adjoint", lambda: desk.do((("adjoint",),))), ("undo", lambda: desk.undo()), ("undo 2", lambda: desk.undo(2)),
                    ("promise least 2", lambda: desk.promise(("least", 2))), ("drop least 2", lambda: desk.drop(("least", 2)))))
                answer, wanted = shell.say(command), outcome(call)
                if type(wanted) is int:
                    self.assertEqual(answer, f"version {wanted}")
                elif type(wanted) is bool:
                    self.assertEqual(answer, "new" if wanted else "there")
                else:
                    self.assertIn(answer.split()[0], ("no", "unknown", "broken", "failed"))
                self.assertEqual((shell.form, shell.promises, shell.version), (desk.form, desk.promises, desk.version))


if __name__ == "__main__":
    unittest.main()
