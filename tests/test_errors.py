"""The errors [1.1], [1.2]."""

import unittest

from ballgrids import errors
from ballgrids.errors import (
    GridError, InvalidCopy, InvalidForm, InvalidMatrix, InvalidNumber, InvalidOperation, InvalidPromise, InvalidRow,
    InvalidRows, InvalidStep, InvalidTable, NothingToUndo, ParseError, Refused, TooMany, UnknownName)
from tests.helper import WRONG

OF_GRIDS = (
    InvalidTable, InvalidForm, InvalidMatrix, InvalidRow, InvalidRows, InvalidCopy, InvalidStep, InvalidPromise,
    InvalidOperation, ParseError)
KEEPING = (
    (ParseError, GridError, "index"), (InvalidNumber, IndexError, "given"), (UnknownName, KeyError, "wanted"),
    (TooMany, OverflowError, "most"), (Refused, ArithmeticError, "reason"), (NothingToUndo, LookupError, "steps"))


class Errors(unittest.TestCase):
    def test_there_are_sixteen(self):
        own = [thing for thing in vars(errors).values() if isinstance(thing, type)]
        self.assertEqual(set(own), {GridError, *OF_GRIDS, *[kind for kind, _, _ in KEEPING]})
        self.assertEqual(len(own), 16)
        for kind in own:
            self.assertEqual(kind.__module__, "ballgrids.errors")

    def test_1_1_what_they_are_derived_from(self):
        self.assertEqual(GridError.__bases__, (ValueError,))
        for kind in OF_GRIDS:
            self.assertEqual(kind.__bases__, (GridError,))

    def test_1_1_messages(self):
        for kind in OF_GRIDS[:-1] + (GridError,):
            with self.assertRaises(ValueError) as caught:
                raise kind("why")
            self.assertIs(type(caught.exception), kind)
            self.assertEqual(caught.exception.args, ("why",))

    def test_1_2_what_they_are_derived_from(self):
        for kind, base, _ in KEEPING:
            self.assertEqual(kind.__bases__, (base,))
        for kind, _, _ in KEEPING[1:]:
            self.assertFalse(issubclass(kind, GridError))

    def test_1_2_what_they_keep(self):
        for kind, base, name in KEEPING:
            for kept in WRONG + (7, ("word", 1)):
                with self.assertRaises(base) as caught:
                    raise kind(kept)
                self.assertIs(getattr(caught.exception, name), kept)
