"""The refusals of the interface's part sayloom/errors.py, and 0.4."""

import unittest

from sayloom import errors
from sayloom.errors import (
    Empty, Full, LoomError, NoBoard, NoDeed, NoEnd, NoEnds, NoHand, NoPlace, NoRoom, NoRow, NoText, NoView, TooWide,
)
from tests.samples import anything, same

OF_TEXT = [NoBoard, NoEnd, NoRow, NoEnds, NoDeed, NoView, NoRoom, TooWide]
OTHERS = [(NoHand, KeyError), (NoPlace, IndexError), (Empty, LookupError), (Full, OverflowError)]


class TestErrors(unittest.TestCase):
    def test_loom_error_is_a_value_error_made_of_a_text(self):
        self.assertEqual(LoomError.__bases__, (ValueError,))
        self.assertEqual(str(LoomError("so it is")), "so it is")
        self.assertEqual(str(LoomError("")), "")

    def test_those_of_a_text_are_right_under_loom_error(self):
        for kind in OF_TEXT:
            with self.subTest(kind=kind.__name__):
                self.assertEqual(kind.__bases__, (LoomError,))
                self.assertEqual(str(kind("so it is")), "so it is")

    def test_no_text_is_right_under_loom_error_and_bears_a_number(self):
        self.assertEqual(NoText.__bases__, (LoomError,))
        self.assertEqual(NoText(7).at, 7)
        self.assertEqual(NoText(at=0).at, 0)
        self.assertIsInstance(str(NoText(7)), str)

    def test_the_others_are_under_their_kinds_and_no_loom_errors(self):
        for kind, base in OTHERS:
            with self.subTest(kind=kind.__name__):
                self.assertEqual(kind.__bases__, (base,))
                self.assertFalse(issubclass(kind, LoomError))

    def test_no_hand_and_no_place_bear_what_is_handed_in(self):
        for thing in anything():
            with self.subTest(thing=thing):
                self.assertTrue(same(NoHand(thing).hand, thing))
                self.assertTrue(same(NoHand(hand=thing).hand, thing))
                self.assertTrue(same(NoPlace(thing).place, thing))
                self.assertTrue(same(NoPlace(place=thing).place, thing))
                self.assertIsInstance(str(NoHand(thing)) + str(NoPlace(thing)), str)

    def test_empty_and_full_bear_sayer_and_hearer(self):
        for kind in (Empty, Full):
            for told in (kind("ann", "bob"), kind(hearer="bob", sayer="ann")):
                with self.subTest(kind=kind.__name__):
                    self.assertEqual((told.sayer, told.hearer), ("ann", "bob"))
                    self.assertIsInstance(str(told), str)

    def test_each_is_a_class_of_its_own_and_there_are_no_others(self):
        told = {LoomError, NoText, *OF_TEXT, *(kind for kind, _ in OTHERS)}
        self.assertEqual(len(told), 14)
        self.assertEqual({thing for thing in vars(errors).values() if isinstance(thing, type)}, told)
        for kind in told:
            self.assertEqual(kind.__module__, "sayloom.errors")


if __name__ == "__main__":
    unittest.main()
