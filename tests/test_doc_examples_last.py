"""Every example of DOC.md that speaks of faces, galleries, words and cells."""

import unittest

from ballgrids.cell.cells import (
    corners, count_sides, covering, is_obtuse_basis, is_relevant, obtuse_weights, relevant_rows)
from ballgrids.cone.told import Copy
from ballgrids.errors import InvalidOperation, InvalidRows, TooMany
from ballgrids.face.classes import face_marks, keepers_by_mark, mass
from ballgrids.face.faces import are_alike_faces, dimension_of, each_face, face_keepers, face_table, is_face, mark_of
from ballgrids.form.forms import Form
from ballgrids.word.galleries import (
    distance, each_step, gallery, gallery_along, is_gallery, is_step, is_word, steps_of, told_by_word, word_of)
from tests.helper import BODY, CUBE, FACED, PLANE, TWENTY_FOUR


class Examples(unittest.TestCase):
    def test_faces(self):
        self.assertEqual(
            [face_marks(2), len(face_marks(3)), len(face_marks(4)), mass(2), mass(3), mass(4), keepers_by_mark(3)[(4, 3)]],
            [((2, 1), (3, 3)), 5, 18, (-1, 24), (0, 1), (0, 1), 24])
        ring = ((0, 0, 1), (0, 1, -1), (1, -1, 0), (1, 0, 0))
        fork = ((0, 0, 1), (0, 1, -1), (0, 1, 0), (1, -1, 0))
        self.assertEqual(
            [mark_of(3, ring), mark_of(3, fork), are_alike_faces(3, ring, fork), len(face_keepers(3, ring)),
             len(face_keepers(3, fork)), dimension_of(3, ring)],
            [(4, 4), (4, 3), False, 48, 24, 4])
        self.assertEqual(
            [is_face(2, ((0, 1), (1, 0))), is_face(2, ((0, 1), (2, 1))), is_face(2, ((1, 0), (0, 1))), is_face(3, ring[:2]),
             face_table(2, ((0, 1), (1, 0), (1, 1)))],
            [True, False, False, False, ((2, 1), (1, 2))])
        self.assertEqual(
            ([len(list(each_face(Copy.first(3), many))) for many in (2, 3, 4, 5, 6)], list(each_face(Copy.first(2), 2))),
            ([0, 16, 15, 6, 1], [((0, 1), (1, -1)), ((0, 1), (1, 0)), ((1, -1), (1, 0))]))
        with self.assertRaises(InvalidRows):
            mark_of(3, ring[::-1])

    def test_galleries(self):
        here, there = Copy("A2", ((1, 0), (0, 1))), Copy("A2", ((1, 30), (0, 1)))
        self.assertEqual(
            [distance(here, there), is_gallery(gallery(here, there)), distance(here, Copy("A2", ((5, 3), (3, 2)))),
             distance(here, Copy("A2", ((0, 1), (1, 0))))],
            [30, True, 4, 0])
        self.assertEqual(
            ([[name for name, matrix in each_step(told)].count("A4") for told in ("A4", "D4")], len(list(each_step("D4"))),
             is_step("A2", "A2", ((1, 1), (0, 1))), is_step("A2", "A2", ((1, 2), (0, 1)))),
            ([0, 48], 64, True, False))
        word = word_of(3, ((1, 5, 0), (0, 1, 0), (0, -7, 1)))
        self.assertEqual(
            [told_by_word(3, word), is_word(3, ((1, 5, 0), (0, 1, 0), (0, -7, 1)), word),
             is_word(2, ((0, 1), (1, 0)), (("A2", ((0, 1), (1, 0))),)), is_word(2, ((1, 0), (0, 1)), ())],
            [((1, 5, 0), (0, 1, 0), (0, -7, 1)), True, True, False])
        way = gallery(here, Copy("A2", ((5, 3), (3, 2))))
        self.assertEqual(
            (gallery_along(here, steps_of(way)) == way, told_by_word(2, (("A2", ((1, 0), (0, 1))),) + steps_of(way))),
            (True, ((5, 3), (3, 2))))
        with self.assertRaises(TooMany) as caught:
            gallery(here, Copy("A2", ((1, 31), (0, 1))))
        self.assertEqual(caught.exception.most, 30)

    def test_cells(self):
        self.assertEqual(
            [relevant_rows(PLANE), [count_sides(form) for form in (PLANE, CUBE, BODY, FACED, TWENTY_FOUR)],
             is_relevant(FACED, (0, -1, 1)), is_relevant(CUBE, (1, 1, 0))],
            [((0, 1), (1, -1), (1, 0)), [6, 6, 14, 12, 24], True, False])
        self.assertEqual(
            [is_obtuse_basis(BODY, ((1, 0, 0), (0, 1, 0), (0, 0, 1), (-1, -1, -1))),
             is_obtuse_basis(PLANE, ((1, 0), (0, 1), (-1, -1))), obtuse_weights(PLANE, ((-1, 0), (0, 1), (1, -1)))],
            [True, False, {(0, 1): 1, (0, 2): 1, (1, 2): 1}])
        self.assertEqual(
            [corners(Form(((1, 0), (0, 1)))), [len(corners(form)) for form in (PLANE, CUBE, BODY, FACED)], corners(PLANE)[0]],
            [(((-1, -1), 2), ((-1, 1), 2), ((1, -1), 2), ((1, 1), 2)), [6, 8, 24, 14], ((-2, 1), 3)])
        self.assertEqual([covering(form) for form in (PLANE, CUBE, BODY, FACED)], [(2, 3), (3, 4), (5, 4), (1, 1)])
        with self.assertRaises(InvalidOperation):
            corners(TWENTY_FOUR)
        self.assertEqual(((FACED.determinant, covering(FACED)), (BODY.determinant, covering(BODY))), ((4, (1, 1)), (16, (5, 4))))
        self.assertGreater(1024, 4 * 125)


if __name__ == "__main__":
    unittest.main()
