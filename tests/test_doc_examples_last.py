"""Every example of DOC.md that speaks of faces, galleries, words, cells, counts, promises, desks, texts and shells."""

import unittest

from ballgrids.cell.cells import (
    corners, count_sides, covering, is_obtuse_basis, is_relevant, obtuse_weights, relevant_rows)
from ballgrids.cone.told import Copy
from ballgrids.count.counts import count_about, count_by_divisors, count_in, counted_form, each_above
from ballgrids.desk.desks import Desk
from ballgrids.desk.promises import does_hold, is_paper_against, is_promise, paper_against
from ballgrids.errors import InvalidForm, InvalidOperation, InvalidRows, ParseError, Refused, TooMany, UnknownName
from ballgrids.face.classes import face_marks, keepers_by_mark, mass
from ballgrids.face.faces import are_alike_faces, dimension_of, each_face, face_keepers, face_table, is_face, mark_of
from ballgrids.form.forms import Form
from ballgrids.text.formats import read_address, read_form, read_matrix, write_address, write_form, write_matrix
from ballgrids.text.shell import Shell
from ballgrids.word.galleries import (
    distance, each_step, gallery, gallery_along, is_gallery, is_step, is_word, steps_of, told_by_word, word_of)
from tests.helper import BODY, CUBE, FACED, PLANE, TWENTY_FOUR


class Examples(unittest.TestCase):
    def test_faces(self):
        self.assertEqual(
            [face_marks(2), len(face_marks(3)), len(face_marks(4)), mass(2), mass(3), mass(4), keepers_by_mark(3)[(4, 3)]],
            [((2, 1), (3, 3)), 5, 18, (-1, 24), (0, 1), (0, 1), 24])
        ring = ((0, 0, 1), (0, 1, -1), (1, -1, 0), (1, 0, 0))
        fork = ((0, 0, 1), (0, 1, -1), (0, 1, 0), (1, -1, 0))
        self.assertEqual(
            [mark_of(3, ring), mark_of(3, fork), are_alike_faces(3, ring, fork), len(face_keepers(3, ring)),
             len(face_keepers(3, fork)), dimension_of(3, ring)],
            [(4, 4), (4, 3), False, 48, 24, 4])
        self.assertEqual(
            [is_face(2, ((0, 1), (1, 0))), is_face(2, ((0, 1), (2, 1))), is_face(2, ((1, 0), (0, 1))), is_face(3, ring[:2]),
             face_table(2, ((0, 1), (1, 0), (1, 1)))],
            [True, False, False, False, ((2, 1), (1, 2))])
        self.assertEqual(
            ([len(list(each_face(Copy.first(3), many))) for many in (2, 3, 4, 5, 6)], list(each_face(Copy.first(2), 2))),
            ([0, 16, 15, 6, 1], [((0, 1), (1, -1)), ((0, 1), (1, 0)), ((1, -1), (1, 0))]))
        with self.assertRaises(InvalidRows):
            mark_of(3, ring[::-1])

    def test_galleries(self):
        here, there = Copy("A2", ((1, 0), (0, 1))), Copy("A2", ((1, 30), (0, 1)))
        self.assertEqual(
            [distance(here, there), is_gallery(gallery(here, there)), distance(here, Copy("A2", ((5, 3), (3, 2)))),
             distance(here, Copy("A2", ((0, 1), (1, 0))))],
            [30, True, 4, 0])
        self.assertEqual(
            ([[name for name, matrix in each_step(told)].count("A4") for told in ("A4", "D4")], len(list(each_step("D4"))),
             is_step("A2", "A2", ((1, 1), (0, 1))), is_step("A2", "A2", ((1, 2), (0, 1)))),
            ([0, 48], 64, True, False))
        word = word_of(3, ((1, 5, 0), (0, 1, 0), (0, -7, 1)))
        self.assertEqual(
            [told_by_word(3, word), is_word(3, ((1, 5, 0), (0, 1, 0), (0, -7, 1)), word),
             is_word(2, ((0, 1), (1, 0)), (("A2", ((0, 1), (1, 0))),)), is_word(2, ((1, 0), (0, 1)), ())],
            [((1, 5, 0), (0, 1, 0), (0, -7, 1)), True, True, False])
        way = gallery(here, Copy("A2", ((5, 3), (3, 2))))
        self.assertEqual(
            (gallery_along(here, steps_of(way)) == way, told_by_word(2, (("A2", ((1, 0), (0, 1))),) + steps_of(way))),
            (True, ((5, 3), (3, 2))))
        with self.assertRaises(TooMany) as caught:
            gallery(here, Copy("A2", ((1, 31), (0, 1))))
        self.assertEqual(caught.exception.most, 30)

    def test_cells(self):
        self.assertEqual(
            [relevant_rows(PLANE), [count_sides(form) for form in (PLANE, CUBE, BODY, FACED, TWENTY_FOUR)],
             is_relevant(FACED, (0, -1, 1)), is_relevant(CUBE, (1, 1, 0))],
            [((0, 1), (1, -1), (1, 0)), [6, 6, 14, 12, 24], True, False])
        self.assertEqual(
            [is_obtuse_basis(BODY, ((1, 0, 0), (0, 1, 0), (0, 0, 1), (-1, -1, -1))),
             is_obtuse_basis(PLANE, ((1, 0), (0, 1), (-1, -1))), obtuse_weights(PLANE, ((-1, 0), (0, 1), (1, -1)))],
            [True, False, {(0, 1): 1, (0, 2): 1, (1, 2): 1}])
        self.assertEqual(
            [corners(Form(((1, 0), (0, 1)))), [len(corners(form)) for form in (PLANE, CUBE, BODY, FACED)], corners(PLANE)[0]],
            [(((-1, -1), 2), ((-1, 1), 2), ((1, -1), 2), ((1, 1), 2)), [6, 8, 24, 14], ((-2, 1), 3)])
        self.assertEqual([covering(form) for form in (PLANE, CUBE, BODY, FACED)], [(2, 3), (3, 4), (5, 4), (1, 1)])
        with self.assertRaises(InvalidOperation):
            corners(TWENTY_FOUR)
        self.assertEqual(((FACED.determinant, covering(FACED)), (BODY.determinant, covering(BODY))), ((4, (1, 1)), (16, (5, 4))))
        self.assertGreater(1024, 4 * 125)

    def test_counts(self):
        self.assertEqual(
            [[count_by_divisors(name, number) for number in (0, 1, 2, 3, 4, 7)] for name in ("A2", "D4", "Z2", "Z4")],
            [[1, 6, 0, 6, 6, 12], [1, 24, 24, 96, 24, 192], [1, 4, 4, 0, 4, 0], [1, 8, 24, 32, 24, 64]])
        self.assertEqual(
            [count_by_divisors("A2", 49), count_by_divisors("Z4", 10 ** 6), counted_form("Z2").table],
            [18, 468744, ((1, 0), (0, 1))])
        self.assertEqual(
            [count_in(2, (2, 1), (3, 3)), count_about(2, (2, 1), (3, 3)), count_in(2, (3, 3), (2, 1)),
             count_in(3, (4, 4), (6, 16)), count_about(3, (4, 3), (6, 16))],
            [3, 2, 0, 3, 6])
        self.assertEqual(
            (list(each_above(3, (4, 4))), count_in(4, (9, 75), (10, 125)) + count_in(4, (9, 81), (10, 125)),
             count_in(4, (9, 75), (12, 312))),
            ([(4, 4), (5, 8), (6, 16)], 10, 48))
        with self.assertRaises(UnknownName) as caught:
            count_by_divisors("A3", 1)
        self.assertEqual(caught.exception.wanted, "A3")

    def test_promises(self):
        self.assertEqual(
            [does_hold(BODY, ("least", 3)), does_hold(BODY, ("density", 27, 16)), does_hold(BODY, ("perfect",)),
             does_hold(FACED * 5, ("alike", "A3")), is_promise(3, ("alike", "A2")), is_promise(2, ("density", 2, 2))],
            [True, True, False, True, False, False])
        self.assertEqual(
            [paper_against(PLANE, ("contacts", 4)), is_paper_against(CUBE, ("density", 2, 1), ("row", (0, 0, -1))),
             is_paper_against(CUBE, ("perfect",), ("blank", ((0, 1, 0), (1, 0, 0), (0, 0, 0))))],
            [("rows", ((0, 1), (1, -1), (1, 0))), True, True])

    def test_desks(self):
        desk = Desk(PLANE)
        self.assertEqual(
            [desk.promise(("density", 4, 3)), desk.promise(("density", 4, 3)), desk.would((("plus", ((1, 0), (0, 0))),)),
             desk.version],
            [True, False, (("density", 4, 3),), 1])
        deeds = (("times", 3), ("led", ((1, 1), (0, 1))), ("adjoint",))
        self.assertEqual(
            [desk.do(deeds), str(desk.form), desk.promise(("alike", "A2")), desk.do((("cleared",), ("times", 1))), desk.undo(3),
             desk.form == PLANE],
            [2, "form 18 -9/-9 6", True, 4, 1, True])
        with self.assertRaises(Refused) as caught:
            desk.do((("times", 2), ("plus", ((-4, 0), (0, 0)))))
        self.assertEqual(caught.exception.reason, ("deed", 1, "flat"))
        self.assertEqual(str(desk), "desk of form 2 1/1 2, 1 promises")

    def test_texts(self):
        self.assertEqual(
            [write_form(PLANE), read_form("2,-1/-1,2") == Form(((2, -1), (-1, 2))), read_matrix("0,1/-1,0"),
             write_matrix(((1, 0, 0), (0, 1, 0), (5, 0, 1)))],
            ["2,1/1,2", True, ((0, 1), (-1, 0)), "1,0,0/0,1,0/5,0,1"])
        found = read_address("A2 1,1/0,1 2 1,0,3")
        self.assertEqual(
            [found[0].name, found[0].matrix, found[1:], write_address(found)],
            ["A2", ((1, 1), (0, 1)), (2, (1, 0, 3)), "A2 1,1/0,1 2 1,0,3"])
        with self.assertRaises(ParseError) as caught:
            read_form("2,1/1,")
        self.assertEqual(caught.exception.index, 6)
        with self.assertRaises(InvalidForm):
            read_form("1,2/2,1")

    def test_shells(self):
        shell = Shell(PLANE)
        self.assertEqual(
            shell.run(("density", "promise perfect", "led 1,1/0,1", "show", "plus 1,0/0,1", "times 2", "least", "undo 1,1", "led 1,0")),
            ("4/3", "new", "version 2", "2,3/3,6", "broken perfect", "version 3", "4", "wrong at 1", "wrong at 1"))
        self.assertEqual(
            shell.run(("open", "times 3", "undo", "cancel", "undo 3", "level", "bound", "rank", "contacts", "times 0")),
            ("open", "taken", "invalid", "dropped", "version 0", "2", "4/3", "3", "3", "invalid"))
        self.assertEqual((len(shell), str(shell)), (19, "shell of size 2 at version 0, 0 promises"))


if __name__ == "__main__":
    unittest.main()
