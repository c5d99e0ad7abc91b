"""Names and boards (1.1), faults (1.2), reach (1.5), and the interface's part sayloom/boards.py."""

import unittest

from sayloom.boards import FAULT, MOST_PLACES, hands_of, is_board, is_name, reach, weak_of
from sayloom.errors import NoBoard, NoHand, NoPlace
from tests.samples import (
    ASKING, BOARDS, BOTH, FALLING, PAIR, Unchanged, anything, chain, closure, crowd, made_up_boards, nested,
    ring, same, star, with_one_listed, with_one_otherwise,
)

HANDS = ("ann", "bob")


def board_of(*places, hands=HANDS, weak=()):
    return hands, weak, places


def said_to(*branches, sayer="ann"):
    """A board whose begin has these branches, behind it an end."""
    return board_of((sayer, branches), None)


class TestNames(unittest.TestCase):
    def test_one_to_eight_small_letters_are_a_name(self):
        for thing in ("a", "z", "ann", "part", "hands", "begin", "abcdefgh", "stuvwxyz"):
            self.assertIs(is_name(thing), True, thing)

    def test_other_texts_are_none(self):
        for thing in ("", "abcdefghi", "Ann", "aNn", "annE", "a b", " ann", "ann ", "ann\n", "a1", "1", "!", "a!",
                      "a_b", "a-b", "`", "{", "@", "\u00e9", "\u00df", "ann\u0301", "\u0430", "\u00aa", "a" * 1000):
            self.assertIs(is_name(thing), False, thing)

    def test_of_anything(self):
        for thing in anything() + [(), ("a",), ["a"], {"a": 1}, 0, 1, PAIR]:
            with self.subTest(thing=thing), Unchanged(self, thing):
                self.assertIs(is_name(thing), thing == "eve")

    def test_by_name(self):
        self.assertIs(is_name(thing="ann"), True)


class TestBoards(unittest.TestCase):
    def told(self, thing, is_one):
        with self.subTest(thing=thing), Unchanged(self, thing):
            self.assertIs(is_board(thing), is_one)
            self.assertIs(is_board(thing=thing), is_one)

    def yes(self, *things):
        for thing in things:
            self.told(thing, True)

    def no(self, *things):
        for thing in things:
            self.told(thing, False)

    def test_values(self):
        self.assertEqual((FAULT, MOST_PLACES), ("!", 40))

    def test_ordinary_boards(self):
        self.yes(*BOARDS)
        self.yes(*made_up_boards(40))

    def test_of_anything(self):
        self.no(*anything(), (), 0, 1, (None, None, None), ((), (), ()), (HANDS, (), ()))

    def test_no_triple(self):
        self.no(PAIR[:2], PAIR + (None,), list(PAIR), {"hands": HANDS, "weak": (), "places": (None,)}, (PAIR,))

    def test_two_to_six_hands(self):
        self.yes(crowd(2), crowd(6), ring(2))
        self.no(crowd(7), (("ann",), (), (None,)), ((), (), (None,)))

    def test_hands_are_a_tuple_of_unlike_names(self):
        for hands in (("ann", "ann"), ("ann", "bob", "ann"), ["ann", "bob"], "ab", {"ann": 1, "bob": 2}, None, True,
                      ("ann", "Bob"), ("ann", ""), ("ann", None), ("ann", 1), ("ann", ["bob"]), ("ann", ("bob",)),
                      ("ann", "bob!"), ("ann", "!"), ("ann", "benjamina")):
            self.no((hands, (), (None,)))
        self.yes((("b", "a"), (), (None,)), (("benjamin", "jonathan"), (), (None,)))

    def test_weak_is_a_rising_tuple_of_hands(self):
        hands = ("cy", "ann", "bob")
        for weak in ((), ("ann",), ("cy",), ("ann", "bob"), ("ann", "cy"), ("bob", "cy"), ("ann", "bob", "cy")):
            self.yes((hands, weak, (None,)))
        for weak in (("cy", "ann"), ("ann", "ann"), ("ann", "bob", "bob"), ("eve",), ("ann", "eve"), ["ann"], "ann",
                     "", None, True, False, 0, [], {}, {"ann": 1}, (1,), (None,), (["ann"],), (("ann",),), ("",),
                     ("ann", True), ("ann", "bob", "cy", "eve"), ((),)):
            self.no((hands, weak, (None,)))

    def test_one_to_forty_places(self):
        self.yes(chain(1), chain(40), ring(40), ring(2))
        self.no(chain(41), ring(42), board_of(), (HANDS, (), None), (HANDS, (), [None]), (HANDS, (), {0: None}),
                (HANDS, (), "x"), (HANDS, (), True))

    def test_a_place_is_none_or_a_pair(self):
        saying = ("ann", (("bob", "hi", 1),))
        self.yes(board_of(saying, None))
        for place in (list(saying), saying[:1], saying + (None,), (), False, True, 0, 1, "", "ann", {}, [], (None,),
                      (None, None), (saying,), ("ann", None), ("ann", "bob"), ("ann", True)):
            self.no(board_of(place, None), board_of(place), board_of(saying, place))

    def test_the_sayer_is_a_hand(self):
        for sayer in ("eve", "", None, True, 0, ["ann"], ("ann",), {"ann": 1}, "!"):
            self.no(said_to(("bob", "hi", 1), sayer=sayer))
        self.yes(said_to(("ann", "hi", 1), sayer="bob"))

    def test_one_to_eight_branches(self):
        self.yes(star(1), star(8))
        self.no(star(0), star(9), star(12))

    def test_branches_are_a_tuple_of_triples(self):
        for branches in ([("bob", "hi", 1)], (["bob", "hi", 1],), (("bob", "hi"),), (("bob", "hi", 1, 1),), ("bob",),
                         ("bob", "hi", 1), (None,), (True,), (1,), ((),), ([],), {}, {"bob": ("hi", 1)},
                         (("bob", "hi", 1), None), (("bob", "hi", 1), ["bob", "no", 1]), ("abc",)):
            self.no(board_of(("ann", branches), None))

    def test_the_hearer_is_another_hand(self):
        for hearer in ("ann", "eve", "", None, True, 0, ["bob"], ("bob",), "!"):
            self.no(said_to((hearer, "hi", 1)))
        self.no(said_to(("bob", "hi", 1), sayer="bob"))

    def test_the_word_is_a_name(self):
        self.yes(*(said_to(("bob", word, 1)) for word in ("a", "bob", "ann", "abcdefgh", "hands", "part")))
        for word in ("", "abcdefghi", "Hi", "hi!", "!!", " ", "1", None, True, 0, 1, ["hi"], ("hi",), {}):
            self.no(said_to(("bob", word, 1)))

    def test_the_place_that_comes_then_is_a_number_of_one(self):
        for then in (2, -1, -2, 40, 10 ** 40 - 1, True, False, None, "1", "", [1], (1,), {}):
            self.no(said_to(("bob", "hi", then), ("bob", "no", 1)))
        self.yes(said_to(("bob", "hi", 0), ("bob", "no", 1)))
        self.no(board_of(("ann", (("bob", "hi", False),))))
        self.yes(board_of(("ann", (("bob", "hi", 0),))))

    def test_branches_rise(self):
        self.yes(said_to(("bob", "hi", 1), ("bob", "no", 1)), said_to(("bob", "hi", 1), ("bob", "no", 0)))
        self.no(said_to(("bob", "no", 1), ("bob", "hi", 1)), said_to(("bob", "no", 0), ("bob", "hi", 1)))
        three = ("ann", "cy", "bob")
        places = (("ann", (("bob", "no", 1), ("cy", "hi", 1))), None)
        self.yes((three, (), places))
        self.no((three, (), (("ann", places[0][1][::-1]), None)))

    def test_no_two_branches_have_the_same_hearer_and_word(self):
        self.no(said_to(("bob", "hi", 0), ("bob", "hi", 1)), said_to(("bob", "hi", 1), ("bob", "hi", 1)))
        hands = ("ann", "bob", "cy")
        self.yes((hands, (), (("ann", (("bob", "hi", 1), ("cy", "hi", 1))), None)))

    def test_all_places_are_come_to(self):
        self.no(board_of(None, None), board_of(("ann", (("bob", "hi", 1),)), None, None))
        self.no(board_of(None, ("ann", (("bob", "hi", 0),))), board_of(("ann", (("bob", "hi", 0),)), None))
        self.no(board_of(("ann", (("bob", "hi", 1),)), None, ("bob", (("ann", "hi", 3),)),
                         ("bob", (("ann", "hi", 2),))))
        self.yes(board_of(("ann", (("bob", "hi", 2),)), None, ("bob", (("ann", "hi", 1),))))

    def test_a_place_may_be_come_to_by_a_fault_alone(self):
        self.yes(board_of(("ann", (("bob", "!", 1), ("bob", "hi", 0))), None, weak=("ann",)))

    def test_each_saying_of_a_weak_hand_has_just_one_fault(self):
        fault, word = ("bob", "!", 1), ("bob", "hi", 1)
        self.yes(board_of(("ann", (fault, word)), None, weak=("ann",)))
        self.no(board_of(("ann", (word,)), None, weak=("ann",)))
        self.no(board_of(("ann", (word, ("bob", "no", 1))), None, weak=("ann",)))
        three = ("ann", "bob", "cy")
        twice = ("ann", (("bob", "!", 1), ("bob", "hi", 1), ("cy", "!", 1)))
        self.no((three, ("ann",), (twice, None)))
        self.yes((three, ("ann",), (("ann", twice[1][:2] + (("cy", "hi", 1),)), None)))
        self.no(board_of(("ann", (word,)), ("bob", (("ann", "hi", 0),)), weak=("bob",)))

    def test_no_other_branch_has_a_fault(self):
        fault, word = ("bob", "!", 1), ("bob", "hi", 1)
        self.no(said_to(fault, word), board_of(("ann", (fault, word)), None, weak=("bob",)))

    def test_each_saying_has_a_word(self):
        self.no(board_of(("ann", (("bob", "!", 1),)), None, weak=("ann",)), said_to(("bob", "!", 1)))

    def test_eight_branches_and_a_fault_are_too_many(self):
        words = tuple(("bob", word, 1) for word in "abcdefgh")
        fault = (("bob", "!", 1),)
        self.yes(board_of(("ann", fault + words[:7]), None, weak=("ann",)))
        self.no(board_of(("ann", fault + words), None, weak=("ann",)))

    def test_a_fallen_hand_says_nothing_behind_its_fault(self):
        begin = ("ann", (("bob", "!", 1), ("bob", "hi", 2)))
        again = ("ann", (("bob", "!", 2), ("bob", "hi", 2)))
        self.no(board_of(begin, again, None, weak=("ann",)))
        self.no(board_of(begin, ("bob", (("cy", "hi", 3),)), None, again, hands=("ann", "bob", "cy"), weak=("ann",)))
        self.no(board_of(("ann", (("bob", "!", 0), ("bob", "hi", 1))), None, weak=("ann",)))
        self.yes(board_of(begin, ("bob", (("cy", "hi", 2),)), None, hands=("ann", "bob", "cy"), weak=("ann",)))

    def test_a_fallen_hand_hears_nothing_behind_its_fault(self):
        begin = ("ann", (("bob", "!", 1), ("bob", "hi", 2)))
        hands = ("ann", "bob", "cy")
        self.no(board_of(begin, ("bob", (("ann", "hi", 2),)), None, weak=("ann",)))
        self.no(board_of(begin, ("bob", (("cy", "hi", 3),)), None, ("cy", (("ann", "hi", 2), ("bob", "no", 2))),
                         hands=hands, weak=("ann",)))
        hears_fault = ("bob", (("ann", "!", 2), ("cy", "hi", 2)))
        self.no(board_of(begin, hears_fault, None, hands=hands, weak=("ann", "bob")))
        self.yes(board_of(begin, ("bob", (("cy", "!", 2), ("cy", "hi", 2))), None, hands=hands, weak=("ann", "bob")))

    def test_a_fallen_hand_is_silent_behind_the_fault_of_another_one_too(self):
        hands, weak = ("ann", "bob", "cy"), ("ann", "bob")
        begin = ("ann", (("bob", "!", 1), ("bob", "hi", 3)))
        gone = ("bob", (("cy", "!", 2), ("cy", "hi", 3)))
        self.yes(board_of(begin, gone, None, None, hands=hands, weak=weak))
        for hearer in ("ann", "bob"):
            self.no(board_of(begin, gone, ("cy", ((hearer, "hi", 3),)), None, hands=hands, weak=weak))

    def test_where_others_talk_on_a_fallen_hand_may_not_be_come_back_to(self):
        places = FALLING[2]
        back = (places[0], ("bob", (("cy", "alone", 4), ("cy", "back", 0))), *places[2:])
        self.no((FALLING[0], FALLING[1], back))
        self.yes(FALLING)

    def test_each_part_of_a_board_is_looked_at(self):
        wrong = [True, False, [], {}, "", "Ann", "eve!", [1], {"a": 1}, -1, 10 ** 40 - 1, (1,), ((),), nested(list, 10)]
        for board in (PAIR, ASKING, FALLING, BOTH, ring(2)):
            for thing in wrong:
                for broken in with_one_otherwise(board, thing):
                    self.assertIs(is_board(broken), False, broken)

    def test_each_tuple_of_a_board_is_no_list(self):
        for board in (PAIR, ASKING, FALLING, BOTH):
            for broken in with_one_listed(board):
                self.assertIs(is_board(broken), False, broken)


class TestHands(unittest.TestCase):
    def test_hands_in_the_boards_order_and_weak_ones_rising(self):
        for board in BOARDS:
            self.assertTrue(same(hands_of(board), board[0]))
            self.assertTrue(same(weak_of(board), board[1]))
        board = (("flo", "ann", "cy"), ("ann", "flo"), (None,))
        self.assertEqual((hands_of(board), weak_of(board)), (("flo", "ann", "cy"), ("ann", "flo")))
        self.assertEqual((hands_of(board=BOTH), weak_of(board=BOTH)), (("ann", "bob", "cy"), ("ann", "bob")))

    def test_no_board_of_anything(self):
        for thing in anything() + [(), chain(41), star(9), crowd(7)]:
            for asked in (hands_of, weak_of):
                with self.subTest(thing=thing), Unchanged(self, thing):
                    with self.assertRaises(NoBoard):
                        asked(thing)


class TestReach(unittest.TestCase):
    def test_along_all_branches(self):
        self.assertTrue(same(reach(PAIR, 0), (0, 1)))
        self.assertEqual(reach(PAIR, 1), (1,))
        self.assertEqual(reach(ASKING, 1), (0, 1, 2, 3, 4))
        self.assertEqual(reach(ASKING, 2), (2,))
        self.assertEqual(reach(FALLING, 1), (1, 4))
        self.assertEqual(reach(chain(40), 7), tuple(range(7, 40)))
        self.assertEqual(reach(chain(1), 0), (0,))
        self.assertEqual(reach(ring(40), 39), tuple(range(40)))

    def test_without_a_hand(self):
        self.assertEqual(reach(FALLING, 2, without="cy"), (1, 2, 3))
        self.assertEqual(reach(ASKING, 0, without="cy"), (0, 1, 2, 3, 4))
        self.assertEqual(reach(ASKING, 0, without="bob"), (0, 2))
        self.assertEqual(reach(ASKING, 0, without="ann"), (0,))
        self.assertEqual(reach(FALLING, 2, without="ann"), (0, 2))
        self.assertEqual(reach(FALLING, 3, without="bob"), (3, 4))

    def test_without_faults_of_the_hand_itself(self):
        self.assertEqual(reach(FALLING, 0, without="ann"), (0,))
        self.assertEqual(reach(BOTH, 1, without="bob"), (1,))
        self.assertEqual(reach(BOTH, 0, without="cy"), (0, 1, 2, 4))

    def test_without_faults(self):
        self.assertEqual(reach(FALLING, 0, faults=False), (0, 2, 3, 4))
        self.assertEqual(reach(FALLING, 0, faults=True), (0, 1, 2, 3, 4))
        self.assertEqual(reach(BOTH, 0, faults=False), (0, 2, 3))
        self.assertEqual(reach(BOTH, 0, without="cy", faults=False), (0, 2))

    def test_as_slowly_worked_out(self):
        for board in BOARDS[:4] + made_up_boards(60):
            for without in (None,) + board[0]:
                for faults in (True, False):
                    far = closure(board, without, faults)
                    for place in range(len(board[2])):
                        told = reach(board, place, without=without, faults=faults)
                        slow = tuple(at for at, steps in enumerate(far[place]) if steps is not None)
                        self.assertTrue(same(told, slow), (board, place, without, faults))

    def test_by_name_in_any_order_and_left_out(self):
        told = reach(faults=True, without=None, place=1, board=FALLING)
        self.assertEqual(told, reach(FALLING, 1))
        with self.assertRaises(TypeError):
            reach(FALLING, 1, "ann")

    def test_no_place_of_anything(self):
        for thing in anything() + [(), 5, [1], (1,), "0"]:
            with self.subTest(thing=thing), Unchanged(self, thing):
                with self.assertRaises(NoPlace) as caught:
                    reach(FALLING, thing)
                self.assertTrue(same(caught.exception.place, thing))
        for board, place in ((PAIR, 2), (chain(1), 1), (chain(40), 40), (PAIR, -1)):
            with self.assertRaises(NoPlace) as caught:
                reach(board, place)
            self.assertEqual(caught.exception.place, place)

    def test_no_hand_of_anything(self):
        for thing in anything() + [(), 0, 1, "dora", ["ann"], ("ann",)]:
            if thing is not None:
                with self.subTest(thing=thing), Unchanged(self, thing):
                    with self.assertRaises(NoHand) as caught:
                        reach(FALLING, 0, without=thing)
                    self.assertTrue(same(caught.exception.hand, thing))

    def test_no_board_of_anything_ahead_of_all_else(self):
        for thing in anything() + [()]:
            with self.subTest(thing=thing), Unchanged(self, thing):
                with self.assertRaises(NoBoard):
                    reach(thing, 0)
                with self.assertRaises(NoBoard):
                    reach(thing, None, without=[])

    def test_no_place_ahead_of_no_hand(self):
        with self.assertRaises(NoPlace):
            reach(FALLING, 5, without="eve")

    def test_the_same_asked_again_is_told_alike_and_a_refusal_changes_nothing(self):
        with Unchanged(self, FALLING):
            first = reach(FALLING, 0, without="bob")
            with self.assertRaises(NoPlace):
                reach(FALLING, True)
            self.assertEqual(reach(FALLING, 0, without="bob"), first)


if __name__ == "__main__":
    unittest.main()
