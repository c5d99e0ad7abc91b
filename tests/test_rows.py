"""Rows (1.3), views (1.4, 1.6), and the interface's part sayloom/rows.py."""

import unittest

from sayloom.boards import reach
from sayloom.errors import NoBoard, NoHand, NoPlace, NoRow
from sayloom.rows import is_faultless, is_row, place_behind, row_to, view_of, views_of
from tests.samples import (
    ASKING, BOARDS, BOTH, FALLING, PAIR, Unchanged, all_rows, anything, chain, closure, made_up_boards, ring,
    ring_row, same, star,
)

ASKED = (("ann", "bob", "want"), ("bob", "ann", "no"), ("bob", "ann", "want"), ("ann", "bob", "yes"))
FELL = (("ann", "bob", "go"), ("bob", "ann", "ok"), ("ann", "bob", "!"), ("bob", "cy", "alone"))
ALL_BUT_ROW_TO = (is_row, place_behind, is_faultless, views_of)


def no_rows():
    """Things that are no row of FALLING."""
    return anything() + [
        0, 1, ("ann", "bob", "go"), [("ann", "bob", "go")], (["ann", "bob", "go"],), (("ann", "bob"),),
        (("ann", "bob", "go", 2),), (("bob", "go", 2),), (("bob", "ann", "go"),), (("ann", "cy", "go"),),
        (("ann", "bob", "hi"),), (("ann", "bob", ["go"]),), (("ann", "bob", True),), (("eve", "bob", "go"),),
        (("ann", "bob", "go"), None), (("ann", "bob", "go"), ("ann", "bob", "go")), FELL + (("cy", "bob", "hi"),),
        FELL + FELL, FELL[1:], FELL[:1] + FELL[2:], (FELL,), list(FELL), {"row": FELL}, FELL + ((),),
        tuple(list(saying) for saying in FELL), (("say", "bob", "go"),), "ann>bob:go", ASKED,
    ]


class TestRows(unittest.TestCase):
    def test_the_empty_row_is_one_of_each_board(self):
        for board in BOARDS:
            self.assertIs(is_row(board, ()), True)
            self.assertTrue(same(place_behind(board, ()), 0))
            self.assertIs(is_faultless(board, ()), True)
            self.assertEqual(views_of(board, ()), {hand: () for hand in board[0]})

    def test_along_branches_from_the_begin_on(self):
        self.assertIs(is_row(PAIR, (("ann", "bob", "hi"),)), True)
        self.assertIs(is_row(PAIR, (("ann", "bob", "hi"),) * 2), False)
        self.assertIs(is_row(ASKING, ASKED), True)
        self.assertIs(is_row(ASKING, ASKED[1:]), False)
        self.assertIs(is_row(FALLING, FELL), True)
        for row, at in ((ASKED[:1], 1), (ASKED[:2], 3), (ASKED[:3], 4), (ASKED, 2)):
            self.assertTrue(same(place_behind(ASKING, row), at))
        for row, at in ((FELL[:1], 2), (FELL[:2], 3), (FELL[:3], 1), (FELL, 4)):
            self.assertTrue(same(place_behind(FALLING, row), at))

    def test_each_row_and_none_that_is_one_saying_otherwise(self):
        for board in (ASKING, FALLING, BOTH, star(8)) + tuple(made_up_boards(20)):
            rows = dict(all_rows(board, 4))
            for row, at in rows.items():
                self.assertIs(is_row(board, row), True)
                self.assertEqual(place_behind(board, row), at)
            for row in rows:
                for number in range(len(row)):
                    for other in (("ann", "bob", "hi"), ("bob", "ann", "no"), ("ann", "bob", "!"), row[0]):
                        changed = row[:number] + (other,) + row[number + 1:]
                        self.assertIs(is_row(board, changed), changed in rows)

    def test_round_a_ring_as_often_as_one_likes(self):
        for many in (2, 40):
            row = ring_row(400)
            self.assertIs(is_row(ring(many), row), True)
            self.assertEqual(place_behind(ring(many), row), 0)
            self.assertEqual(place_behind(ring(many), row[:399]), 399 % many)
            self.assertIs(is_faultless(ring(many), row), True)
            self.assertIs(is_row(ring(many), row[:200] + row[201:]), False)
            self.assertIs(is_row(ring(many), row[:399] + (("ann", "bob", "hi"),)), False)
            self.assertEqual(view_of(ring(many), row, "bob"), (("hear", "ann", "hi"), ("say", "ann", "hi")) * 200)

    def test_to_the_end_of_forty_places_and_not_on(self):
        row = (("ann", "bob", "hi"),) * 39
        self.assertEqual(place_behind(chain(40), row), 39)
        self.assertIs(is_row(chain(40), row + row[:1]), False)

    def test_faultless_where_none_has_a_fault(self):
        for row in (FELL[:1], FELL[:2], (("ann", "bob", "go"), ("bob", "cy", "note"))):
            self.assertIs(is_faultless(FALLING, row), True)
        for row in (FELL, FELL[:3], (("ann", "bob", "!"),), (("ann", "bob", "!"), ("bob", "cy", "alone"))):
            self.assertIs(is_faultless(FALLING, row), False)

    def test_is_row_of_anything(self):
        for thing in no_rows():
            with self.subTest(thing=thing), Unchanged(self, thing):
                self.assertIs(is_row(FALLING, thing), False)

    def test_no_row_of_anything(self):
        for thing in no_rows():
            with self.subTest(thing=thing), Unchanged(self, thing):
                for asked in (place_behind, is_faultless, views_of):
                    with self.assertRaises(NoRow):
                        asked(FALLING, thing)
                with self.assertRaises(NoRow):
                    view_of(FALLING, thing, "ann")

    def test_no_board_of_anything_ahead_of_all_else(self):
        for thing in anything() + [()]:
            for row in ((), None, FELL):
                with self.subTest(thing=thing, row=row), Unchanged(self, thing):
                    for asked in ALL_BUT_ROW_TO:
                        with self.assertRaises(NoBoard):
                            asked(thing, row)
                    with self.assertRaises(NoBoard):
                        view_of(thing, row, "eve")
                    with self.assertRaises(NoBoard):
                        row_to(thing, row, without=row)


class TestViews(unittest.TestCase):
    def test_words_said_and_heard_in_their_order(self):
        self.assertEqual(view_of(PAIR, (("ann", "bob", "hi"),), "ann"), (("say", "bob", "hi"),))
        self.assertEqual(view_of(PAIR, (("ann", "bob", "hi"),), "bob"), (("hear", "ann", "hi"),))
        told = (("say", "bob", "want"), ("hear", "bob", "no"), ("hear", "bob", "want"), ("say", "bob", "yes"))
        self.assertTrue(same(view_of(ASKING, ASKED, "ann"), told))
        self.assertEqual(view_of(ASKING, ASKED, "cy"), ())

    def test_a_fault_is_heard_and_no_event_of_its_sayer(self):
        self.assertEqual(view_of(FALLING, FELL, "ann"), (("say", "bob", "go"), ("hear", "bob", "ok")))
        told = (("hear", "ann", "go"), ("say", "ann", "ok"), ("hear", "ann", "!"), ("say", "cy", "alone"))
        self.assertEqual(view_of(FALLING, FELL, "bob"), told)
        self.assertEqual(view_of(FALLING, FELL, "cy"), (("hear", "bob", "alone"),))
        self.assertEqual(view_of(FALLING, (("ann", "bob", "!"),), "ann"), ())

    def test_of_all_hands_in_the_boards_order(self):
        for board, row in ((ASKING, ASKED), (FALLING, FELL)):
            told = views_of(board, row)
            self.assertIs(type(told), dict)
            self.assertEqual(list(told), list(board[0]))
            self.assertEqual(told, {hand: view_of(board, row, hand) for hand in board[0]})
        board = (("cy", "ann", "bob"), (), (("ann", (("bob", "hi", 1),)), None))
        self.assertEqual(list(views_of(board, ())), ["cy", "ann", "bob"])

    def test_rows_are_the_same_just_where_their_views_are(self):
        for board in [ASKING, FALLING, BOTH, star(8)] + made_up_boards(25):
            rows = [row for row, _ in all_rows(board, 5)][:400]
            seen = {tuple(views_of(board, row).items()) for row in rows}
            self.assertEqual(len(seen), len(set(rows)))

    def test_what_is_told_is_the_askers_own(self):
        first = views_of(FALLING, FELL)
        elder = dict(first)
        first["ann"] = ()
        del first["bob"]
        first["eve"] = (("say", "ann", "hi"),)
        self.assertEqual(views_of(FALLING, FELL), elder)

    def test_no_hand_of_anything_behind_no_row(self):
        for thing in anything() + [(), 0, 1, "dora", ["ann"], ("ann",)]:
            with self.subTest(thing=thing), Unchanged(self, thing):
                with self.assertRaises(NoHand) as caught:
                    view_of(FALLING, FELL, thing)
                self.assertTrue(same(caught.exception.hand, thing))
                with self.assertRaises(NoRow):
                    view_of(FALLING, FELL + FELL, thing)
                with self.assertRaises(NoBoard):
                    view_of(None, FELL, thing)

    def test_by_name_in_any_order(self):
        self.assertIs(is_row(thing=FELL, board=FALLING), True)
        self.assertEqual(place_behind(row=FELL, board=FALLING), 4)
        self.assertIs(is_faultless(row=FELL, board=FALLING), False)
        self.assertEqual(views_of(row=FELL, board=FALLING), views_of(FALLING, FELL))
        self.assertEqual(view_of(hand="cy", row=FELL, board=FALLING), (("hear", "bob", "alone"),))

    def test_the_same_asked_again_is_told_alike(self):
        with Unchanged(self, FALLING, FELL):
            for asked in ALL_BUT_ROW_TO:
                first = asked(FALLING, FELL)
                with self.assertRaises(NoBoard):
                    asked(FELL, FALLING)
                self.assertTrue(same(asked(FALLING, FELL), first))
            self.assertEqual(view_of(FALLING, FELL, "bob"), view_of(FALLING, FELL, "bob"))


class TestRowTo(unittest.TestCase):
    def test_to_the_begin_leads_the_empty_row(self):
        for board in BOARDS:
            for without in (None,) + board[0]:
                for faults in (True, False):
                    self.assertEqual(row_to(board, 0, without=without, faults=faults), ())

    def test_a_shortest_row(self):
        self.assertEqual(row_to(PAIR, 1), (("ann", "bob", "hi"),))
        self.assertEqual(row_to(ASKING, 4), ASKED[:3])
        self.assertEqual(row_to(ASKING, 2), (("ann", "cy", "note"),))
        self.assertEqual(row_to(FALLING, 1), (("ann", "bob", "!"),))
        self.assertEqual(row_to(chain(40), 39), (("ann", "bob", "hi"),) * 39)
        self.assertEqual(row_to(ring(40), 39), ring_row(39))

    def test_without_a_hand_or_faults_or_none_where_none_leads_there(self):
        self.assertEqual(row_to(ASKING, 2, without="cy"), (("ann", "bob", "want"), ("bob", "ann", "yes")))
        self.assertIsNone(row_to(ASKING, 1, without="bob"))
        self.assertIsNone(row_to(ASKING, 1, without="ann"))
        self.assertIsNone(row_to(FALLING, 1, faults=False))
        self.assertIsNone(row_to(FALLING, 1, without="ann"))
        self.assertIsNone(row_to(BOTH, 4, faults=False))
        told = (("ann", "bob", "go"), ("bob", "ann", "ok"), ("ann", "cy", "bye"))
        self.assertEqual(row_to(FALLING, 4, faults=False), told)

    def test_as_slowly_worked_out(self):
        for board in BOARDS[:4] + made_up_boards(60):
            for without in (None,) + board[0]:
                for faults in (True, False):
                    steps = closure(board, without, faults)[0]
                    for place in range(len(board[2])):
                        self.look_at(board, place, without, faults, steps[place])

    def look_at(self, board, place, without, faults, steps):
        row = row_to(board, place, without=without, faults=faults)
        if steps is None:
            self.assertIsNone(row)
            self.assertNotIn(place, reach(board, 0, without=without, faults=faults))
            return
        self.assertIs(is_row(board, row), True)
        self.assertEqual((place_behind(board, row), len(row)), (place, steps))
        if without is not None:
            self.assertFalse([saying for saying in row if without in saying[:2]])
        if not faults:
            self.assertIs(is_faultless(board, row), True)

    def test_by_name_in_any_order_and_left_out(self):
        told = row_to(faults=True, without=None, place=4, board=FALLING)
        self.assertEqual(told, row_to(FALLING, 4))
        with self.assertRaises(TypeError):
            row_to(FALLING, 4, "ann")

    def test_no_place_of_anything_ahead_of_no_hand(self):
        for thing in anything() + [(), 5, [1], (1,), "0"]:
            with self.subTest(thing=thing), Unchanged(self, thing):
                for without in (None, "eve"):
                    with self.assertRaises(NoPlace) as caught:
                        row_to(FALLING, thing, without=without)
                    self.assertTrue(same(caught.exception.place, thing))

    def test_no_hand_of_anything_but_none(self):
        for thing in anything() + [(), 0, 1, "dora", ["ann"], ("ann",)]:
            if thing is not None:
                with self.subTest(thing=thing), Unchanged(self, thing):
                    with self.assertRaises(NoHand) as caught:
                        row_to(FALLING, 4, without=thing)
                    self.assertTrue(same(caught.exception.hand, thing))

    def test_the_same_asked_again_is_told_alike(self):
        with Unchanged(self, BOTH):
            self.assertEqual(row_to(BOTH, 3), row_to(BOTH, 3))


if __name__ == "__main__":
    unittest.main()
