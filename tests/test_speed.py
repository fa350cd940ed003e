"""How many functions run in calls that are asked tens of thousands of times.

A time is another one at each run, and on each machine; this number is not. It is greater
under Python 3.11, where a comprehension counts as a function, than under later ones.
"""

import unittest

from ballgrids.bound.bounds import bound, bound_paper, shortfall
from ballgrids.cell.cells import corners, covering, obtuse_basis, relevant_rows
from ballgrids.chain.chains import chain, each_rise, greatest_t, is_chain, is_rise, is_rising, rise_rows, risen
from ballgrids.cone.addresses import address, walk
from ballgrids.cone.told import Copy
from ballgrids.desk.desks import Desk
from ballgrids.face.classes import face_with
from ballgrids.face.faces import face_matrix, is_face
from ballgrids.form.forms import Form
from ballgrids.price.prices import least_price, price_paper
from ballgrids.span.spans import blanks, is_blank, is_perfect, told_copy
from ballgrids.weight.weights import blocking, critical_index, is_blocking, is_opposing, level_number, opposing
from ballgrids.word.galleries import distance, is_step
from tests.helper import BODY, GRID, TWENTY_FOUR, calls_of, multiple

Q = Form(((5, 1, 2, 0), (1, 6, 1, 1), (2, 1, 7, 3), (0, 1, 3, 8)))


def rises_of(form):
    return list(each_rise(form))


class Calls(unittest.TestCase):
    def check_calls(self, most, call, *arguments):
        self.assertLess(calls_of(call, *arguments), most, (call, arguments))

    def test_chains(self):
        # Before: 15542, 6287, 7623, 9528 and 5781.
        self.check_calls(3000, chain, Q)
        self.check_calls(1200, chain, GRID)
        self.check_calls(1700, is_chain, Q, chain(Q))
        self.check_calls(2800, rises_of, Q)
        self.check_calls(1400, rises_of, GRID)

    def test_rises(self):
        # Before: 555, 982, 1537, 1469, 2325.
        height = blanks(Q)[0] if is_rising(Q, blanks(Q)[0]) else multiple(blanks(Q)[0], -1)
        self.check_calls(150, is_rising, Q, height)
        self.check_calls(250, is_rise, Q, risen(Q, height))
        self.check_calls(400, risen, Q, height)
        self.check_calls(360, greatest_t, Q, height)
        self.check_calls(400, rise_rows, Q, height)

    def test_spans(self):
        # Before: 411, 555, 1030 and 4235.
        self.check_calls(120, is_blank, Q, blanks(Q)[0])
        self.check_calls(180, blanks, Q)
        self.check_calls(100, is_perfect, TWENTY_FOUR)
        self.check_calls(900, told_copy, TWENTY_FOUR)

    def test_weights(self):
        # Before: 1211, 1929, 565, 1591, 551 and 926.
        self.check_calls(250, opposing, Q)
        self.check_calls(350, blocking, Q)
        self.check_calls(110, level_number, Q)
        self.check_calls(130, critical_index, TWENTY_FOUR)
        self.check_calls(140, is_opposing, Q, opposing(Q))
        self.check_calls(140, is_blocking, Q, blocking(Q))

    def test_places(self):
        # Before: 3504, 6070, 3187, 2646 and 3512.
        self.check_calls(800, address, Q)
        self.check_calls(2000, walk, Q)
        self.check_calls(700, bound_paper, Q)
        self.check_calls(500, bound, Q)
        self.check_calls(450, shortfall, Q)
        self.check_calls(700, price_paper, Q)
        self.check_calls(500, least_price, Q)

    def test_faces_and_steps(self):
        for mark, most in (((4, 1), 700), ((7, 21), 1400), ((9, 81), 1400), ((12, 312), 1400)):
            face = face_with(4, mark)
            self.check_calls(most, is_face, 4, face)
            self.check_calls(6 * most, face_matrix, 4, face, face)
        self.check_calls(150, is_step, "A2", "A2", ((1, 1), (0, 1)))
        self.check_calls(250, distance, Copy.first(2), Copy("A2", ((5, 3), (3, 2))))

    def test_cells(self):
        self.check_calls(1500, relevant_rows, Q)
        self.check_calls(1500, relevant_rows, TWENTY_FOUR)
        self.check_calls(250, obtuse_basis, BODY)
        self.check_calls(700, corners, BODY)
        self.check_calls(500, covering, BODY)

    def test_desks(self):
        desk = Desk(TWENTY_FOUR)
        for promise in (("least", 1), ("least", 2), ("density", 4, 1), ("contacts", 12), ("perfect",), ("alike", "D4"), ("density", 3, 1), ("contacts", 1)):
            desk.promise(promise)
        # The least rows are looked for once for all promises.
        self.check_calls(700, desk.do, (("times", 2), ("cleared",), ("times", 3)))


if __name__ == "__main__":
    unittest.main()
