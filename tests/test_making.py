"""Stuck or let (5.3), and the interface's part sayloom/making.py."""

import itertools
import unittest

from sayloom.errors import NoBoard, NoHand, TooWide
from sayloom.halls import Hall
from sayloom.made import made_end
from sayloom.making import is_let, made, stuck_kinds, stuck_paper
from sayloom.stuck import KINDS, shows_stuck
from sayloom.texts import read_talk
from tests.kinds import (
    ALL_KINDS, ALONE, FALLS_OR_NEVER, GONE, JUST_NARROW, LET, LIKE_DEEDS, LIKE_HANDS, ROUND, STUCK, TOO_WIDE, renamed,
    two_rings,
)
from tests.papers import slow_papers
from tests.samples import ASKING, BOARDS, BOTH, FALLING, Unchanged, all_rows, anything, made_up_boards, same


def without_rounds(many, seed):
    """So many thrown boards with few rows, none of which goes round."""
    found = []
    for board in made_up_boards(20 * many, seed):
        rows = all_rows(board, 6)
        if len(rows) <= 30 and max(len(row) for row, _ in rows) < 6:
            found.append(board)
    return found[:many]


class TestMade(unittest.TestCase):
    def test_let_boards_have_their_made_ends(self):
        for board in LET + [JUST_NARROW]:
            with self.subTest(board=board), Unchanged(self, board):
                told = made(board)
                self.assertTrue(same(told, ("made", tuple(made_end(board, hand) for hand in board[0]))))
                self.assertIs(is_let(board), True)
                for hand in board[0]:
                    self.assertIsNone(stuck_paper(board, hand))
                    self.assertTrue(same(stuck_kinds(board, hand), ()))

    def test_stuck_boards_have_a_paper(self):
        for board in STUCK + [ASKING]:
            with self.subTest(board=board), Unchanged(self, board):
                kind, paper = made(board)
                self.assertEqual(kind, "stuck")
                self.assertIs(shows_stuck(board, paper), True)
                self.assertIs(is_let(board), False)

    def test_boards_that_are_stuck_by_one_kind_alone(self):
        for kind, board in ALONE.items():
            with self.subTest(kind=kind):
                self.assertEqual(made(board)[1][0], kind)
                found = {told for hand in board[0] for told in stuck_kinds(board, hand)}
                self.assertEqual(found, {kind})
                for hand in board[0]:
                    others = tuple(other for other in KINDS if other != kind)
                    self.assertIsNone(stuck_paper(board, hand, kinds=others))
                    paper = stuck_paper(board, hand, kinds=(kind,))
                    self.assertEqual(paper is None, stuck_kinds(board, hand) == ())
                    self.assertTrue(paper is None or shows_stuck(board, paper) and paper[:2] == (kind, hand))

    def test_who_is_stuck_by_what(self):
        told = {
            ALONE["ends"]: [(), ("ends",), ("ends",)],
            ALONE["fault"]: [(), ("fault",), ()],
            ALONE["mixed"]: [("mixed",), (), ()],
            ALONE["race"]: [(), (), (), ("race",), ()],
            ALONE["says"]: [(), (), ("says",), (), ()],
            ALL_KINDS: [("fault", "race"), (), ("ends", "mixed", "says")],
            FALLING: [("mixed",), ("ends",), ("race",)],
            BOTH: [("ends",), (), ("fault",)],
            FALLS_OR_NEVER: [(), (), ("ends", "says"), ("ends",)],
        }
        for board, kinds in told.items():
            self.assertTrue(same([stuck_kinds(board, hand) for hand in board[0]], kinds))

    def test_what_a_hand_does_itself_is_no_waiting(self):
        apart = "hands(ann bob cy dora) begin cy { dora one p() | dora two q() } "
        for text, kinds in (
            ("part p(): ann { bob e q() } part q(): ann { bob x p() }", [("says",), (), (), ()]),
            ("part p(): ann { bob e . } part q(): bob { ann w p() }", [("mixed", "says"), ("mixed", "says"), (), ()]),
        ):
            board = read_talk(apart + text)
            self.assertEqual([stuck_kinds(board, hand) for hand in board[0]], kinds)

    def test_two_words_of_one_sayer_are_no_race(self):
        board = read_talk("hands(k x f g h) begin k { x one p() | x two q() | x three r() } part p(): f { h m . } "
                          "part q(): f { h y p() } part r(): g { h z . }")
        self.assertEqual(stuck_kinds(board, "h"), ())

    def test_all_rows_of_kinds(self):
        for hand in ALL_KINDS[0]:
            has = stuck_kinds(ALL_KINDS, hand)
            for many in range(6):
                for kinds in itertools.permutations(KINDS, many):
                    paper = stuck_paper(ALL_KINDS, hand, kinds=kinds)
                    if set(kinds) & set(has):
                        self.assertIn(paper[0], kinds)
                        self.assertEqual(paper[1], hand)
                        self.assertIs(shows_stuck(ALL_KINDS, paper), True)
                    else:
                        self.assertIsNone(paper)
            self.assertEqual(stuck_paper(ALL_KINDS, hand) is None, not has)

    def test_papers_of_all_kinds_there_are_are_found(self):
        seen = {kind: 0 for kind in KINDS}
        for board in without_rounds(40, 31) + [ALONE["ends"], ALONE["fault"], ALONE["says"], ALL_KINDS, GONE]:
            papers, _ = slow_papers(board, 6)
            for hand in board[0]:
                kinds = tuple(sorted({paper[0] for paper in papers if paper[1] == hand}))
                self.assertTrue(same(stuck_kinds(board, hand), kinds), (board, hand, kinds))
                for kind in kinds:
                    self.assertIn(stuck_paper(board, hand, kinds=(kind,)), papers)
                    seen[kind] += 1
            self.assertEqual(is_let(board), not papers)
        self.assertGreater(min(seen.values()), 0)

    def test_short_papers_of_boards_that_go_round_are_found(self):
        for board in made_up_boards(25, 33) + [ALONE["mixed"], ALONE["race"]]:
            papers, _ = slow_papers(board, 3)
            for paper in papers:
                self.assertIn(paper[0], stuck_kinds(board, paper[1]))
            for hand in board[0]:
                for kind in stuck_kinds(board, hand):
                    self.assertIs(shows_stuck(board, stuck_paper(board, hand, kinds=(kind,))), True)

    def test_whatever_hands_and_words_are_called(self):
        for board in made_up_boards(80, 37) + STUCK + LET[:5]:
            for names in (LIKE_HANDS, LIKE_DEEDS):
                told = renamed(board, names)
                kinds = [stuck_kinds(board, hand) for hand in board[0]]
                self.assertEqual([stuck_kinds(told, hand) for hand in told[0]], kinds)
                self.assertEqual(is_let(told), not any(kinds))
                self.assertTrue(is_let(told) or shows_stuck(told, made(told)[1]))

    def test_a_fault_is_no_word_of_a_race(self):
        # bob hears cy's fault ahead of ed's word or not.
        board = (("ann", "bob", "cy", "ed"), ("cy",), (
            ("ann", (("cy", "hi", 1), ("ed", "hi", 2))),
            ("cy", (("bob", "!", 2), ("ed", "no", 2))),
            ("ed", (("bob", "yes", 3),)),
            None,
        ))
        self.assertEqual(stuck_kinds(board, "bob"), ("fault",))
        other = (("ann", "cy", "hi"), ("cy", "bob", "!"), ("ed", "bob", "yes"))
        paper = ("race", "bob", (("ann", "ed", "hi"), ("ed", "bob", "yes")), other)
        self.assertIs(shows_stuck(board, paper), False)
        # Nor is one what is heard last.
        board = (("ann", "bob", "cy", "ed"), ("cy",), (
            ("ann", (("cy", "hi", 2), ("ed", "hi", 1))),
            ("ed", (("bob", "yes", 2),)),
            ("cy", (("bob", "!", 3), ("ed", "no", 3))),
            None,
        ))
        self.assertEqual(stuck_kinds(board, "bob"), ("ends", "fault"))
        row = (("ann", "cy", "hi"), ("cy", "bob", "!"))
        other = (("ann", "ed", "hi"), ("ed", "bob", "yes"), ("cy", "bob", "!"))
        self.assertIs(shows_stuck(board, ("race", "bob", row, other)), False)
        self.assertIs(shows_stuck(board, ("fault", "bob", row, other[:2])), True)

    def test_who_says_another_word_first_is_in_no_race(self):
        def board_of(first):
            return ("ann", "bob", "cy", "dora"), (), (
                ("dora", (("bob", "hi", 1), ("cy", "hi", 3))),
                ("cy", ((first, "no", 2),)),
                ("cy", (("bob", "yes", 4),)),
                ("cy", (("bob", "yes", 4),)),
                None,
            )
        row = (("dora", "cy", "hi"), ("cy", "bob", "yes"))
        for first, is_race in (("bob", False), ("ann", True)):
            other = (("dora", "bob", "hi"), ("cy", first, "no"), ("cy", "bob", "yes"))
            self.assertIs(shows_stuck(board_of(first), ("race", "bob", row, other)), is_race)
            self.assertIs(shows_stuck(board_of(first), ("race", "bob", row, other[:2])), False)
            self.assertEqual("race" in stuck_kinds(board_of(first), "bob"), is_race)

    def test_who_is_held_back_is_in_no_race(self):
        def board_of(hearer):
            return ("ann", "bob", "cy", "dora"), (), (
                ("dora", (("bob", "no", 1), ("cy", "yes", 2))),
                ("bob", ((hearer, "on", 2),)),
                ("cy", (("bob", "no", 3),)),
                None,
            )
        row = (("dora", "cy", "yes"), ("cy", "bob", "no"))
        for hearer, is_race in (("cy", False), ("ann", True)):
            other = (("dora", "bob", "no"), ("bob", hearer, "on"), ("cy", "bob", "no"))
            self.assertIs(shows_stuck(board_of(hearer), ("race", "bob", row, other)), is_race)
            self.assertEqual("race" in stuck_kinds(board_of(hearer), "bob"), is_race)

    def test_other_ends_with_the_word_of_a_race(self):
        board = (ALONE["race"][0], ALONE["race"][1], ALONE["race"][2][:1] + (
            ("cy", (("bob", "no", 2),)), ("cy", (("ann", "so", 3),)), None,
        ))
        row = (("dora", "cy", "yes"), ("cy", "bob", "no"))
        other = (("dora", "bob", "no"), ("dora", "cy", "yes"), ("cy", "bob", "no"))
        self.assertIs(shows_stuck(board, ("race", "bob", row, other)), True)
        self.assertIs(shows_stuck(board, ("race", "bob", row, other + (("cy", "ann", "so"),))), False)

    def test_a_row_in_which_a_mute_one_falls_is_no_race(self):
        # bob hears dora's word in the place of cy's, and ann what bob says then; cy's comes behind ann's fall alone.
        def board_of(first_fall):
            return ("ann", "bob", "cy", "dora"), ("ann",), (
                ("dora", (("bob", "no", 1), ("cy", "yes", 4))),
                ("bob", (("ann", "on", 2),)),
                ("ann", (("dora", "!", first_fall), ("dora", "hi", 3))),
                ("ann", (("dora", "!", 4), ("dora", "ho", 5))),
                ("cy", (("bob", "no", 5),)),
                None,
            )
        # Where ann falls ahead of what it had to say it isn't mute; behind that it is.
        paper = stuck_paper(board_of(4), "bob", kinds=("race",))
        told = (("dora", "bob", "no"), ("bob", "ann", "on"), ("ann", "dora", "!"), ("cy", "bob", "no"))
        self.assertEqual(paper, ("race", "bob", (("dora", "cy", "yes"), ("cy", "bob", "no")), told))
        self.assertNotIn("race", stuck_kinds(board_of(5), "bob"))
        late = told[:2] + (("ann", "dora", "hi"), ("ann", "dora", "!"), ("cy", "bob", "no"))
        for first_fall in (4, 5):
            self.assertIs(shows_stuck(board_of(first_fall), paper[:3] + (late,)), False)

    def test_made_ends_of_let_boards_let_nobody_wait_for_ever(self):
        boards = [board for board in made_up_boards(60, 35) if is_let(board)][:25]
        for board in boards + [GONE, ROUND, LET[3]]:
            for room in (1, 2):
                self.assertTrue(all_go_on(made(board)[1], room, board[1]), board)
        # So the walk does see who waits: of a stuck one they do.
        ends = tuple(made_end(ALONE["ends"], hand) for hand in ALONE["ends"][0])
        self.assertFalse(all_go_on(ends, 1, ()))

    def test_too_wide(self):
        for board in (TOO_WIDE, two_rings(19, 20)):
            self.assertRaises(TooWide, made, board)
            self.assertRaises(TooWide, is_let, board)
            for kinds in ((), KINDS, ("ends",)):
                self.assertRaises(TooWide, stuck_paper, board, "cy", kinds=kinds)
            self.assertRaises(TooWide, stuck_kinds, board, "cy")
            for hand in ("ann", "bob"):
                self.assertIsNone(stuck_paper(board, hand))
                self.assertEqual(stuck_kinds(board, hand), ())
        # Though a paper with another hand could be told.
        begin = (TOO_WIDE[2][0][0], TOO_WIDE[2][0][1] + (("dora", "hi", 1),))
        board = (("dora", "ann", "bob", "cy"), (), (begin,) + TOO_WIDE[2][1:])
        self.assertEqual(stuck_kinds(board, "dora"), ("ends",))
        self.assertRaises(TooWide, made, board)
        self.assertEqual(len(made_end(JUST_NARROW, "cy")[1]), 100)

    def test_no_board_then_no_hand(self):
        for thing in anything() + [()]:
            with self.subTest(thing=thing), Unchanged(self, thing):
                self.assertRaises(NoBoard, made, thing)
                self.assertRaises(NoBoard, is_let, thing)
                self.assertRaises(NoBoard, stuck_paper, thing, "eve")
                self.assertRaises(NoBoard, stuck_kinds, thing, "eve")
        for thing in anything() + [(), 0, "dora", ["ann"], ("ann",)]:
            for board in (GONE, FALLING, TOO_WIDE):
                for asked in (stuck_paper, stuck_kinds):
                    with self.subTest(thing=thing), Unchanged(self, thing):
                        with self.assertRaises(NoHand) as caught:
                            asked(board, thing)
                        self.assertTrue(same(caught.exception.hand, thing))

    def test_by_name_and_alike(self):
        for board in BOARDS + STUCK:
            with Unchanged(self, board):
                self.assertEqual(made(board=board), made(board))
                self.assertEqual(is_let(board=board), is_let(board))
                hand = board[0][1]
                self.assertEqual(stuck_kinds(hand=hand, board=board), stuck_kinds(board, hand))
                told = stuck_paper(kinds=KINDS, hand=hand, board=board)
                self.assertTrue(same(told, stuck_paper(board, hand)))
        self.assertRaises(TypeError, stuck_paper, FALLING, "ann", KINDS)


def all_go_on(ends, room, weak):
    """Whether behind all deeds of a hall each living hand that isn't done can still come to a deed without falls."""
    halls = {}
    goes = {}
    left = [Hall(ends, room=room, weak=weak)]
    while left:
        hall = left.pop()
        key = key_of(hall)
        if key in halls:
            continue
        halls[key] = hall
        goes[key] = []
        for deed in hall.can_do():
            then = hall.twin()
            then.do(deed)
            goes[key].append((deed, key_of(then)))
            left.append(then)
    return all(hand_goes_on(hand, halls, goes) for hand, _ in ends)


def key_of(hall):
    states = tuple(-1 if hand in hall.fallen() else hall.state_of(hand) for hand, _ in hall.ends)
    return states, tuple(hall.under_way().items())


def hand_goes_on(hand, halls, goes):
    good = {key for key, hall in halls.items() if hand in hall.fallen() or hall.is_done(hand)}
    many = -1
    while len(good) > many:
        many = len(good)
        for key in halls:
            steps = [(deed, then) for deed, then in goes[key] if deed[0] != "fall"]
            if [deed for deed, then in steps if deed[1] == hand or then in good]:
                good.add(key)
    return len(good) == len(halls)


if __name__ == "__main__":
    unittest.main()
