"""Made ends (4.1, 4.2), and the interface's part sayloom/made.py."""

import unittest

from sayloom.ends import end_behind, is_done, is_end
from sayloom.errors import NoBoard, NoHand, NoPlace, NoView, TooWide
from sayloom.made import MOST_STATES, made_end, places_behind, sets_of, view_to
from sayloom.rows import view_of
from tests.kinds import ALL_KINDS, ALONE, GONE, JUST_NARROW, LET, ROUND, STUCK, TOO_WIDE, two_rings
from tests.machines import views_done
from tests.papers import event_in
from tests.samples import (
    ASKING, BOARDS, BOTH, FALLING, PAIR, Unchanged, all_rows, anything, chain, made_up_boards, ring, same,
)


def slow_behind(board, hand, view):
    """P(w), by all places and how much of the view lies behind."""
    come = [(0, 0)]
    for at, many in come:
        for hearer, word, then in board[2][at][1] if board[2][at] else ():
            sayer = board[2][at][0]
            if sayer == hand and word == "!":
                continue
            event = event_in((sayer, hearer, word), hand)
            if event is None:
                step = (then, many)
            elif view[many:many + 1] == (event,):
                step = (then, many + 1)
            else:
                continue
            if step not in come:
                come.append(step)
    return tuple(sorted(at for at, many in come if many == len(view)))


def slow_sets(board, hand):
    """The sets in the order in which they first come, and the views by which they come."""
    sets = [slow_behind(board, hand, ())]
    views = [()]
    for view in views:
        here = slow_behind(board, hand, view)
        events = set()
        for at in here:
            for hearer, word, _ in board[2][at][1] if board[2][at] else ():
                events.add(event_in((board[2][at][0], hearer, word), hand))
        for event in sorted(events - {None}):
            then = slow_behind(board, hand, view + (event,))
            if then not in sets:
                sets.append(then)
                views.append(view + (event,))
    return sets, views


SMALL = [PAIR, ASKING, FALLING, BOTH, GONE, ROUND, ring(4), chain(5)] + STUCK + made_up_boards(40)


class TestPlacesBehind(unittest.TestCase):
    def test_where_rows_of_a_view_end(self):
        told = places_behind(ASKING, "ann", (("say", "bob", "want"),))
        # bob may have said note to cy, unseen by ann.
        self.assertTrue(same(places_behind(ASKING, "cy", ()), (0, 1, 2, 3, 4)))
        self.assertTrue(same(told, (1,)))
        self.assertEqual(places_behind(ASKING, "ann", (("say", "bob", "want"), ("hear", "bob", "no"))), (2, 3))
        self.assertEqual(places_behind(FALLING, "cy", (("hear", "bob", "alone"),)), (4,))
        self.assertEqual(places_behind(chain(40), "bob", (("hear", "ann", "hi"),) * 39), (39,))

    def test_others_faults_are_among_the_rows_the_hands_own_are_not(self):
        self.assertEqual(places_behind(GONE, "ann", ()), (0,))
        self.assertEqual(places_behind(GONE, "bob", ()), (0,))
        self.assertEqual(places_behind(GONE, "cy", ()), (0, 1, 2))
        self.assertEqual(places_behind(GONE, "bob", (("hear", "ann", "!"),)), (1,))
        self.assertEqual(places_behind(BOTH, "cy", ()), (0, 1, 2, 4))
        self.assertEqual(places_behind(ROUND, "ann", (("say", "bob", "hi"), ("hear", "bob", "!"))), (1,))

    def test_no_row_has_such_a_view(self):
        for view in ((("say", "bob", "ho"),), (("say", "ann", "hi"),), (("hear", "bob", "!"),), (("say", "eve", "hi"),),
                     (("say", "bob", "hi"), ("say", "bob", "hi")), (("hear", "bob", "hi"),)):
            self.assertTrue(same(places_behind(PAIR, "ann", view), ()))

    def test_as_slowly_worked_out(self):
        for board in SMALL:
            for hand in board[0]:
                views = {view_of(board, row, hand) for row, _ in all_rows(board, 4)}
                for view in views:
                    self.assertTrue(same(places_behind(board, hand, view), slow_behind(board, hand, view)))
                for view in list(views)[:5]:
                    other = view[::-1] + (("say", board[0][1], "hi"),)
                    self.assertEqual(places_behind(board, hand, other), slow_behind(board, hand, other))

    def test_of_all_rows_where_none_goes_round(self):
        for board in (GONE, ALL_KINDS, ALONE["ends"], ALONE["fault"], ALONE["says"], chain(4)):
            rows = all_rows(board, 8)
            for hand in board[0]:
                found = {}
                for row, at in rows:
                    if not [saying for saying in row if saying[0] == hand and saying[2] == "!"]:
                        found.setdefault(view_of(board, row, hand), set()).add(at)
                for view, places in found.items():
                    self.assertEqual(places_behind(board, hand, view), tuple(sorted(places)))

    def test_refusals_in_their_order(self):
        for thing in anything() + [()]:
            with self.subTest(thing=thing), Unchanged(self, thing):
                self.assertRaises(NoBoard, places_behind, thing, "eve", None)
        for thing in anything() + [(), 0, "dora", ["ann"], ("ann",)]:
            with self.subTest(thing=thing), Unchanged(self, thing):
                with self.assertRaises(NoHand) as caught:
                    places_behind(ASKING, thing, None)
                self.assertTrue(same(caught.exception.hand, thing))
        for thing in anything() + [0, ("say", "bob", "want"), [("say", "bob", "want")], (["say", "bob", "want"],)]:
            with self.subTest(thing=thing), Unchanged(self, thing):
                self.assertRaises(NoView, places_behind, ASKING, "ann", thing)

    def test_by_name_and_alike(self):
        told = places_behind(view=(), hand="cy", board=ASKING)
        with Unchanged(self, ASKING):
            self.assertTrue(same(told, places_behind(ASKING, "cy", ())))


class TestMadeEnds(unittest.TestCase):
    def test_ordinary_ones(self):
        self.assertTrue(same(made_end(PAIR, "ann"), ("ann", ((("say", "bob", "hi", 1),), ()))))
        self.assertTrue(same(made_end(PAIR, "bob"), ("bob", ((("hear", "ann", "hi", 1),), ()))))
        self.assertEqual(made_end(chain(1), "ann"), ("ann", ((),)))
        self.assertEqual(made_end(GONE, "ann"), ("ann", ((("say", "bob", "go", 1),), ())))
        told = ((("hear", "ann", "!", 1), ("hear", "ann", "go", 2)), (("say", "cy", "gone", 3),),
                (("say", "cy", "go", 3),), ())
        self.assertEqual(made_end(GONE, "bob"), ("bob", told))
        self.assertEqual(made_end(GONE, "cy"), ("cy", ((("hear", "bob", "go", 1), ("hear", "bob", "gone", 1)), ())))
        self.assertEqual(sets_of(GONE, "bob"), ((0,), (1,), (2,), (3,)))
        self.assertEqual(sets_of(GONE, "cy"), ((0, 1, 2), (3,)))

    def test_of_hands_without_events(self):
        self.assertEqual(made_end(ASKING, "ann")[0], "ann")
        self.assertEqual(made_end((("ann", "bob", "cy"), (), PAIR[2]), "cy"), ("cy", ((),)))
        self.assertEqual(sets_of((("ann", "bob", "cy"), (), PAIR[2]), "cy"), ((0, 1),))

    def test_states_are_the_sets_as_they_first_come(self):
        for board in SMALL + BOARDS + LET:
            with Unchanged(self, board):
                for hand in board[0]:
                    sets, _ = slow_sets(board, hand)
                    self.assertTrue(same(sets_of(board, hand), tuple(sets)))
                    end = made_end(board, hand)
                    self.assertIs(is_end(end), True)
                    self.assertEqual((end[0], len(end[1])), (hand, len(sets)))

    def test_just_the_views_of_the_boards_rows(self):
        for board in SMALL:
            for hand in board[0]:
                end = made_end(board, hand)
                sets = sets_of(board, hand)
                for row, at in all_rows(board, 4):
                    state = end_behind(end, view_of(board, row, hand))
                    self.assertIsNotNone(state)
                    fell = [saying for saying in row if saying[0] == hand and saying[2] == "!"]
                    self.assertTrue(fell or at in sets[state])
                for view, state in views_done(end, 3).items():
                    behind = slow_behind(board, hand, view)
                    self.assertEqual(behind, sets[state])
                    self.assertNotEqual(behind, ())
                    events = {event_in((board[2][at][0],) + branch[:2], hand)
                              for at in behind if board[2][at] for branch in board[2][at][1]}
                    self.assertEqual(is_done(end, state), not events - {None})

    def test_a_shortest_view_to_each_state(self):
        for board in SMALL + BOARDS + [JUST_NARROW]:
            for hand in board[0]:
                end = made_end(board, hand)
                steps = {0: 0}
                for at in list(range(len(end[1]))):
                    for step in end[1][at]:
                        steps.setdefault(step[3], steps[at] + 1)
                for state in range(len(end[1])):
                    view = view_to(board, hand, state)
                    self.assertIs(type(view), tuple)
                    self.assertEqual(end_behind(end, view), state)
                    self.assertEqual(len(view), steps[state])

    def test_a_hundred_states_and_no_more(self):
        self.assertEqual(MOST_STATES, 100)
        self.assertEqual(len(made_end(JUST_NARROW, "cy")[1]), 100)
        self.assertEqual(len(sets_of(JUST_NARROW, "cy")), 100)
        self.assertEqual(len(view_to(JUST_NARROW, "cy", 99)), 99)
        for board in (TOO_WIDE, two_rings(19, 20)):
            self.assertRaises(TooWide, made_end, board, "cy")
            self.assertRaises(TooWide, sets_of, board, "cy")
            for state in (0, 99, 100, None, True):
                self.assertRaises(TooWide, view_to, board, "cy", state)
        # Whoever else has an end there has one; behind a view there are places all the same.
        self.assertEqual(len(made_end(TOO_WIDE, "bob")[1]), 3)
        self.assertEqual(len(made_end(TOO_WIDE, "ann")[1]), 30)
        self.assertEqual(places_behind(TOO_WIDE, "cy", (("hear", "ann", "tick"),) * 102), (1 + 102 % 4, 5 + 102 % 25))

    def test_no_place_of_anything(self):
        for thing in anything() + [(), 4, [1], "0", (1,)]:
            with self.subTest(thing=thing), Unchanged(self, thing):
                with self.assertRaises(NoPlace) as caught:
                    view_to(GONE, "bob", thing)
                self.assertTrue(same(caught.exception.place, thing))

    def test_no_board_then_no_hand(self):
        for thing in anything() + [()]:
            with self.subTest(thing=thing), Unchanged(self, thing):
                self.assertRaises(NoBoard, made_end, thing, "eve")
                self.assertRaises(NoBoard, sets_of, thing, "eve")
                self.assertRaises(NoBoard, view_to, thing, "eve", None)
        for thing in anything() + [(), 0, "dora", ["ann"], ("ann",)]:
            for board in (GONE, TOO_WIDE):
                for asked in (made_end, sets_of, lambda one, two: view_to(one, two, None)):
                    with self.subTest(thing=thing), Unchanged(self, thing):
                        with self.assertRaises(NoHand) as caught:
                            asked(board, thing)
                        self.assertTrue(same(caught.exception.hand, thing))

    def test_by_name_and_alike(self):
        with Unchanged(self, GONE):
            self.assertTrue(same(made_end(hand="bob", board=GONE), made_end(GONE, "bob")))
            self.assertTrue(same(sets_of(hand="bob", board=GONE), sets_of(GONE, "bob")))
            self.assertTrue(same(view_to(state=3, hand="bob", board=GONE), view_to(GONE, "bob", 3)))


if __name__ == "__main__":
    unittest.main()
