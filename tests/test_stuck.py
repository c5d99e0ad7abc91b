"""Stuck papers (5.1), hands held back (5.2), and the interface's part sayloom/stuck.py."""

import unittest

from sayloom.errors import NoBoard, NoHand, NoPlace, NoRow
from sayloom.making import stuck_paper
from sayloom.stuck import KINDS, held_back, shows_stuck
from tests.kinds import ALL_KINDS, ALONE, GONE, LET, ROUND, STUCK
from tests.papers import is_slow_paper, place_in, slow_held, slow_papers
from tests.samples import (
    ASKING, BOARDS, BOTH, FALLING, PAIR, Unchanged, all_rows, anything, made_up_boards, same, with_one_listed,
    with_one_otherwise,
)
from tests.test_rows import no_rows

# ann tells bob, who tells cy, who tells dora, with falls of bob and cy in between.
LINE = (
    ("ann", "bob", "cy", "dora"),
    ("bob", "cy"),
    (
        ("ann", (("bob", "hi", 1), ("cy", "hi", 2), ("dora", "hi", 3))),
        ("bob", (("cy", "!", 4), ("cy", "on", 2), ("dora", "on", 3))),
        ("cy", (("dora", "!", 5), ("dora", "on", 3))),
        ("dora", (("ann", "all", 6),)),
        ("cy", (("dora", "!", 7), ("dora", "no", 7))),
        ("ann", (("dora", "no", 8),)),
        ("ann", (("dora", "yes", 8), ("dora", "zzz", 0))),
        ("ann", (("dora", "oh", 8),)),
        None,
    ),
)
PAPERS = {
    "ends": ("ends", "bob", (("ann", "bob", "hi"),), (("ann", "cy", "yes"),)),
    "fault": ("fault", "bob", (("cy", "ann", "no"), ("ann", "bob", "!")), (("cy", "bob", "no"),)),
    "mixed": ("mixed", "ann", (("ann", "cy", "no"), ("bob", "cy", "no"), ("ann", "cy", "no")),
              (("ann", "cy", "no"), ("bob", "ann", "yes"))),
    "race": ("race", "bob", (("dora", "cy", "yes"), ("cy", "bob", "no")),
             (("dora", "bob", "no"), ("dora", "cy", "yes"), ("cy", "bob", "no"))),
    "says": ("says", "cy", (("bob", "ann", "!"), ("cy", "dora", "yes")), (("bob", "ann", "no"),)),
}


class TestHeldBack(unittest.TestCase):
    def test_who_would_hear_of_one_held_back_is_held_back_too(self):
        row = (("ann", "bob", "hi"), ("bob", "cy", "on"), ("cy", "dora", "on"), ("dora", "ann", "all"))
        for many, told in ((1, (("bob",), ())), (2, (("bob", "cy"), ("bob",))),
                           (3, (("bob", "cy", "dora"), ("bob", "cy"))),
                           (4, (("ann", "bob", "cy", "dora"), ("bob", "cy", "dora")))):
            self.assertTrue(same(held_back(LINE, row[:many], "bob"), told))
        self.assertEqual(held_back(LINE, row, "cy", at=1), (("ann", "cy", "dora"), ("cy", "dora")))
        self.assertEqual(held_back(LINE, row, "dora", at=2), (("ann", "dora"), ("dora",)))
        self.assertEqual(held_back(LINE, row, "ann", at=3), (("ann",), ()))

    def test_what_the_free_say_holds_nobody_back(self):
        row = (("ann", "bob", "hi"), ("bob", "dora", "on"), ("dora", "ann", "all"), ("ann", "dora", "zzz"),
               ("ann", "cy", "hi"), ("cy", "dora", "on"))
        self.assertEqual(held_back(LINE, row, "dora", at=1), (("ann", "cy", "dora"), ("ann", "cy", "dora")))
        self.assertEqual(held_back(LINE, row[:2], "dora", at=1), (("dora",), ()))
        self.assertEqual(held_back(LINE, row, "dora", at=5), (("dora",), ()))
        race = PAPERS["race"][3]
        self.assertEqual(held_back(ALONE["race"], race, "bob"), (("bob",), ()))

    def test_a_fault_is_done_but_of_a_mute_one(self):
        row = (("ann", "cy", "hi"), ("cy", "dora", "!"))
        self.assertEqual(held_back(LINE, row, "cy"), (("cy",), ()))
        row = (("ann", "bob", "hi"), ("bob", "cy", "on"), ("cy", "dora", "!"), ("ann", "dora", "no"))
        # cy is held back, but had nothing to say; who hears a fault is held back by none.
        self.assertEqual(held_back(LINE, row, "bob"), (("bob", "cy"), ("bob",)))
        mute = (("ann", "bob", "hi"), ("bob", "cy", "on"), ("cy", "dora", "on"), ("dora", "ann", "all"),
                ("ann", "dora", "zzz"), ("ann", "cy", "hi"), ("cy", "dora", "!"))
        self.assertIsNone(held_back(LINE, mute, "bob"))
        self.assertIsNone(held_back(LINE, mute + (("ann", "dora", "no"),), "bob"))
        self.assertEqual(held_back(LINE, mute[:-1], "bob")[1], ("ann", "bob", "cy", "dora"))
        self.assertEqual(held_back(LINE, mute, "dora", at=4), (("dora",), ()))

    def test_a_heard_fault_may_be_the_one_from_which_on(self):
        row = (("ann", "bob", "hi"), ("bob", "cy", "!"), ("cy", "dora", "no"), ("ann", "dora", "oh"))
        self.assertEqual(held_back(LINE, row, "cy", at=1), (("cy", "dora"), ("cy",)))
        self.assertEqual(held_back(LINE, row, "dora", at=2), (("dora",), ()))

    def test_as_slowly_worked_out(self):
        for board in [LINE, FALLING, BOTH, ROUND, GONE] + made_up_boards(25):
            for row, _ in all_rows(board, 5)[:300]:
                for at, saying in enumerate(row):
                    slow = slow_held(row, saying[1], at)
                    told = slow and (tuple(sorted(slow[0])), tuple(sorted(slow[1])))
                    self.assertTrue(same(held_back(board, row, saying[1], at=at), told))

    def test_refusals_in_their_order(self):
        row = (("ann", "bob", "go"), ("bob", "cy", "note"))
        for thing in anything() + [()]:
            with self.subTest(thing=thing), Unchanged(self, thing):
                self.assertRaises(NoBoard, held_back, thing, None, "eve", at=-1)
        for thing in no_rows():
            with self.subTest(thing=thing), Unchanged(self, thing):
                self.assertRaises(NoRow, held_back, FALLING, thing, "eve", at=-1)
        for thing in anything() + [(), 0, "dora", ["ann"], ("ann",)]:
            with self.subTest(thing=thing), Unchanged(self, thing):
                with self.assertRaises(NoHand) as caught:
                    held_back(FALLING, row, thing, at=-1)
                self.assertTrue(same(caught.exception.hand, thing))
        for thing in anything() + [(), 1, 2, "0", [0], (0,)]:
            with self.subTest(thing=thing), Unchanged(self, thing):
                with self.assertRaises(NoPlace) as caught:
                    held_back(FALLING, row, "bob", at=thing)
                self.assertTrue(same(caught.exception.place, thing))
        for told, hand, at in (((), "bob", 0), (row, "ann", 0), (row, "cy", 0), (row, "bob", False)):
            with self.assertRaises(NoPlace) as caught:
                held_back(FALLING, told, hand, at=at)
            self.assertTrue(same(caught.exception.place, at))
        self.assertRaises(NoPlace, held_back, FALLING, row, "cy")

    def test_by_name_and_alike(self):
        row = (("ann", "bob", "go"), ("bob", "cy", "note"))
        with Unchanged(self, FALLING, row):
            self.assertEqual(held_back(at=1, hand="cy", row=row, board=FALLING), held_back(FALLING, row, "cy", at=1))
            self.assertEqual(held_back(FALLING, row, "bob"), (("bob", "cy"), ("bob",)))
            self.assertRaises(TypeError, held_back, FALLING, row, "bob", 0)


class TestShowsStuck(unittest.TestCase):
    def test_kinds(self):
        self.assertEqual(KINDS, ("ends", "fault", "mixed", "race", "says"))

    def test_a_paper_of_each_kind(self):
        for kind, paper in PAPERS.items():
            with self.subTest(kind=kind), Unchanged(self, paper):
                self.assertIs(shows_stuck(ALONE[kind], paper), True)
                for other in KINDS:
                    if other != kind:
                        self.assertIs(shows_stuck(ALONE[kind], (other,) + paper[1:]), False)

    def test_other_may_end_with_a_fault_in_mixed_and_fault(self):
        hidden = (("ann", "bob", "cy", "dora"), ("bob", "cy"), (
            ("dora", (("bob", "hi", 1), ("cy", "hi", 2))),
            ("bob", (("ann", "!", 3), ("ann", "no", 3))),
            ("cy", (("ann", "!", 3), ("ann", "no", 3))),
            ("ann", (("dora", "hi", 4),)),
            None,
        ))
        row, other = (("dora", "bob", "hi"), ("bob", "ann", "!")), (("dora", "cy", "hi"), ("cy", "ann", "!"))
        self.assertIs(shows_stuck(hidden, ("fault", "ann", row, other)), True)
        self.assertIs(shows_stuck(hidden, ("fault", "ann", row, row)), False)
        self.assertIs(shows_stuck(hidden, ("fault", "ann", other, row)), True)
        word = (("dora", "cy", "hi"), ("cy", "ann", "no"))
        self.assertIs(shows_stuck(hidden, ("fault", "ann", row, word)), True)
        self.assertIs(shows_stuck(hidden, ("fault", "ann", word, row)), False)
        mixes = (("ann", "bob", "cy"), ("bob",), (
            ("cy", (("bob", "hi", 1), ("bob", "no", 2))),
            ("bob", (("ann", "!", 3), ("ann", "no", 3))),
            ("ann", (("cy", "hi", 3),)),
            None,
        ))
        told = (("cy", "bob", "no"), ("ann", "cy", "hi"))
        for word in ("!", "no"):
            self.assertIs(shows_stuck(mixes, ("mixed", "ann", told, (("cy", "bob", "hi"), ("bob", "ann", word)))), True)

    def test_all_short_papers_there_are(self):
        shown = {kind: 0 for kind in KINDS}
        for board in [ALONE[kind] for kind in KINDS] + [ALL_KINDS, GONE] + made_up_boards(14, 21):
            papers, rows = slow_papers(board, 4)
            for hand in board[0]:
                for row in rows[:14]:
                    for other in rows[:14]:
                        for kind in KINDS:
                            paper = (kind, hand, row, other)
                            self.assertIs(shows_stuck(board, paper), paper in papers, (board, paper))
            for paper in sorted(papers)[:400]:
                self.assertIs(shows_stuck(board, paper), True)
                shown[paper[0]] += 1
        self.assertGreater(min(shown.values()), 1)

    def test_told_papers_with_a_saying_otherwise_or_out(self):
        for board in STUCK + made_up_boards(30, 5):
            for hand in board[0]:
                for kind in KINDS:
                    paper = stuck_paper(board, hand, kinds=(kind,))
                    if paper is not None:
                        self.changed(board, paper)

    def changed(self, board, paper):
        kind, hand, row, other = paper
        rows = [row, row[1:], row[:-1], other, other[:-1], row + other, ()]
        rows += [row[:at] + row[at + 1:] for at in range(len(row))] + [other[:at] + other[at + 1:]
                                                                       for at in range(len(other))]
        for one in rows:
            for two in rows:
                slow = place_in(board, one) is not None and place_in(board, two) is not None
                for other_kind in KINDS:
                    told = shows_stuck(board, (other_kind, hand, one, two))
                    self.assertIs(told, slow and is_slow_paper(board, other_kind, hand, one, two))

    def test_papers_with_one_thing_otherwise(self):
        wrong = [True, False, None, [], {}, "", "eve", "dora", "!", "mute", -1, 0, 1, 10 ** 40 - 1, (0,), ((),), [0]]
        for kind, board in ALONE.items():
            papers = [stuck_paper(board, hand) for hand in board[0]]
            for paper in [paper for paper in papers if paper]:
                for thing in wrong:
                    for broken in with_one_otherwise(paper, thing):
                        if not same(broken, paper):
                            slow = self.looked_at_slowly(board, broken)
                            self.assertIs(shows_stuck(board, broken), slow, broken)
                for broken in with_one_listed(paper):
                    self.assertIs(shows_stuck(board, broken), False, broken)

    def looked_at_slowly(self, board, thing):
        """Whether a told paper with one thing otherwise is a paper all the same (with another hand, say)."""
        if not isinstance(thing, tuple) or len(thing) != 4 or thing[0] not in KINDS or thing[1] not in board[0]:
            return False
        for row in thing[2:]:
            if not isinstance(row, tuple) or not all(isinstance(one, tuple) and len(one) == 3 for one in row):
                return False
            if not all(isinstance(word, str) for one in row for word in one) or place_in(board, row) is None:
                return False
        return is_slow_paper(board, *thing)

    def test_a_let_board_has_none(self):
        for board in LET[:4] + [PAIR]:
            rows = [row for row, _ in all_rows(board, 4)][:25]
            for kind in KINDS:
                for hand in board[0]:
                    for row in rows:
                        for other in rows:
                            self.assertIs(shows_stuck(board, (kind, hand, row, other)), False)

    def test_false_of_anything(self):
        for board in BOARDS + STUCK:
            things = [(), 0, ("ends",), ("ends", "ann"), ("ends", "ann", (), (), ()), list(PAPERS["says"])]
            for thing in anything() + things:
                with self.subTest(thing=thing), Unchanged(self, thing):
                    self.assertIs(shows_stuck(board, thing), False)
        for kind in KINDS + ("none", None, True, ["ends"]):
            for row in [None, (), [], True, "", (("ann", "bob", "hi"),)] + anything():
                self.assertIs(shows_stuck(ASKING, (kind, "ann", row, row)), False)

    def test_no_board_of_anything(self):
        for thing in anything() + [()]:
            with self.subTest(thing=thing), Unchanged(self, thing):
                self.assertRaises(NoBoard, shows_stuck, thing, PAPERS["says"])

    def test_by_name_and_alike(self):
        with Unchanged(self, ALONE, PAPERS):
            self.assertIs(shows_stuck(thing=PAPERS["says"], board=ALONE["says"]), True)
            self.assertIs(shows_stuck(ALONE["says"], PAPERS["says"]), True)


if __name__ == "__main__":
    unittest.main()
