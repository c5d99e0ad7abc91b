"""Ends that keep others (3.3, 3.4), and the interface's part sayloom/keeps.py."""

import itertools
import random
import unittest

from sayloom.errors import NoEnd, NoHand
from sayloom.keeps import keeps, shows_keeps
from sayloom.made import made_end
from tests.machines import (
    ASKS, ASKS_LONG, DONE, EVER, lasso, like_end, line, step_from, thrown_end, twofold, views_done,
)
from tests.samples import BOARDS, Unchanged, anything, made_up_boards, same, with_one_listed, with_one_otherwise
from tests.test_ends import no_ends

HI = ("say", "bob", "hi")
HO = ("say", "bob", "ho")
OH = ("hear", "bob", "oh")
FELL = ("hear", "bob", "!")


def end_of(*states):
    """An end of ann: for each state a dict from events to states."""
    return "ann", tuple(tuple(sorted(event + (then,) for event, then in state.items())) for state in states)


BOTH_WORDS = end_of({HI: 1, HO: 1}, {OH: 0})
JUST_HI = end_of({HI: 1}, {OH: 0})
MORE_WORDS = end_of({HI: 1, HO: 1, ("say", "cy", "hi"): 1}, {OH: 0})
DEAF = end_of({HI: 1}, {})
SHARP = end_of({HI: 1}, {OH: 0, FELL: 1})
MUTE = end_of({}, {})
HEARS_OR_SAYS = end_of({HI: 0, OH: 0})
HEARS = end_of({OH: 0})


def is_kept_at(end, mine, other, its):
    """Whether the document's three words hold in two states."""
    one = {step[:3] for step in end[1][mine]}
    two = {step[:3] for step in other[1][its]}
    hears = {event for event in one if event[0] == "hear"} == {event for event in two if event[0] == "hear"}
    says = {event for event in one if event[0] == "say"}
    others = {event for event in two if event[0] == "say"}
    return hears and says <= others and bool(says or not others)


def breaking(end, mine, other, its):
    """All third parts of papers by which it breaks in two states."""
    one = {step[:3] for step in end[1][mine]}
    two = {step[:3] for step in other[1][its]}
    found = [event for event in one ^ two if event[0] == "hear"] + [event for event in one - two if event[0] == "say"]
    said = [[event for event in events if event[0] == "say"] for events in (one, two)]
    return found + [None] * bool(said[1] and not said[0])


def closed(end, other, pairs):
    """Whether pairs, as a set, are such that show that an end keeps another one."""
    if (0, 0) not in pairs or not all(is_kept_at(end, mine, other, its) for mine, its in pairs):
        return False
    for mine, its in pairs:
        for step in end[1][mine]:
            then = step_from(other, its, step[:3])
            if then is not None and (step[3], then) not in pairs:
                return False
    return True


class TestKeeps(unittest.TestCase):
    def test_ordinary_ends_that_keep(self):
        for end, other in ((JUST_HI, BOTH_WORDS), (BOTH_WORDS, BOTH_WORDS), (ASKS, ASKS_LONG), (ASKS_LONG, ASKS),
                           (BOTH_WORDS, MORE_WORDS), (JUST_HI, MORE_WORDS), (EVER, lasso(100, 3)), (DONE, DONE),
                           (MUTE, DONE), (HEARS_OR_SAYS, HEARS_OR_SAYS)):
            with self.subTest(end=end, other=other), Unchanged(self, end, other):
                told = keeps(end, other)
                self.assertEqual(told[0], "keeps")
                self.assertIs(shows_keeps(end, other, told), True)
        self.assertTrue(same(keeps(JUST_HI, BOTH_WORDS), ("keeps", ((0, 0), (1, 1)))))
        self.assertTrue(same(keeps(DONE, DONE), ("keeps", ((0, 0),))))

    def test_each_way_to_break(self):
        for end, other, paper in (
            (MORE_WORDS, BOTH_WORDS, ("breaks", (), ("say", "cy", "hi"))),
            (BOTH_WORDS, JUST_HI, ("breaks", (), HO)),
            (SHARP, JUST_HI, ("breaks", (HI,), FELL)),
            (JUST_HI, SHARP, ("breaks", (HI,), FELL)),
            (DEAF, JUST_HI, ("breaks", (HI,), OH)),
            (MUTE, JUST_HI, ("breaks", (), None)),
            (HEARS, HEARS_OR_SAYS, ("breaks", (), None)),
            (line(40), EVER, ("breaks", (HI,) * 40, None)),
            (EVER, line(40), ("breaks", (HI,) * 40, HI)),
        ):
            with self.subTest(end=end, other=other), Unchanged(self, end, other):
                self.assertTrue(same(keeps(end, other), paper))
                self.assertIs(shows_keeps(end, other, paper), True)
        # A say of the other one alone breaks nothing while another one is left.
        self.assertEqual(keeps(JUST_HI, BOTH_WORDS)[0], "keeps")

    def test_views_of_whatever_length_are_told_and_shown(self):
        one = lasso(99, 0)
        states = lasso(100, 0)[1]
        two = ("ann", states[:99] + (states[99] + (("say", "bob", "no", 0),),))
        self.assertEqual(keeps(one, two)[0], "keeps")
        told = keeps(two, one)
        self.assertEqual(told, ("breaks", (HI,) * 99, ("say", "bob", "no")))
        self.assertIs(shows_keeps(two, one, told), True)
        # Only where both begin anew at once do 98 and 99 words part.
        late = ("ann", lasso(99, 0)[1][:98] + ((("say", "bob", "no", 0),),))
        told = keeps(lasso(100, 0), late)
        self.assertIs(shows_keeps(lasso(100, 0), late, told), True)

    def test_just_one_of_both_as_slowly_worked_out(self):
        dice = random.Random(7)
        seen = {"keeps": 0, "breaks": 0}
        for _ in range(400):
            other = thrown_end(dice, 2, words=("hi",))
            end = dice.choice([thrown_end(dice, 2, words=("hi",)), self.fewer(dice, twofold(other))])
            both = set(views_done(end, 4)) & set(views_done(other, 4))
            done = views_done(end, 4), views_done(other, 4)
            slow = all(is_kept_at(end, done[0][view], other, done[1][view]) for view in both)
            told = keeps(end, other)
            self.assertEqual(told[0] == "keeps", slow, (end, other))
            self.assertIs(shows_keeps(end, other, told), True)
            seen[told[0]] += 1
        self.assertGreater(min(seen.values()), 50)

    def fewer(self, dice, end):
        """The same end but for a say fewer, perhaps."""
        states = list(end[1])
        at = dice.randrange(len(states))
        says = [step for step in states[at] if step[0] == "say"]
        if says:
            states[at] = tuple(step for step in states[at] if step != dice.choice(says))
        return end[0], tuple(states)

    def test_what_keeps_one_that_keeps_a_third_keeps_the_third(self):
        dice = random.Random(8)
        many = 0
        for _ in range(600):
            third = thrown_end(dice, 2, words=("hi", "no"))
            second = self.fewer(dice, twofold(third))
            first = self.fewer(dice, second)
            if keeps(first, second)[0] == keeps(second, third)[0] == "keeps":
                self.assertEqual(keeps(first, third)[0], "keeps")
                many += 1
        self.assertGreater(many, 100)

    def test_an_end_does_nothing_that_one_kept_by_it_does_not(self):
        dice = random.Random(9)
        for _ in range(200):
            other = thrown_end(dice, 3)
            end = self.fewer(dice, twofold(other))
            if keeps(end, other)[0] == "keeps":
                done = views_done(other, 4)
                for view, state in views_done(end, 4).items():
                    self.assertIn(view, done)
                    self.assertEqual(not end[1][state], not other[1][done[view]])

    def test_made_ends_keep_themselves(self):
        for board in BOARDS + made_up_boards(20):
            for hand in board[0]:
                end = made_end(board, hand)
                told = keeps(end, end)
                self.assertEqual(told, ("keeps", tuple((at, at) for at in range(len(end[1])))))


class TestShowsKeeps(unittest.TestCase):
    def test_all_rows_of_pairs_there_are(self):
        dice = random.Random(10)
        shown = 0
        for _ in range(25):
            other = thrown_end(dice, 2, words=("hi",))
            end = dice.choice([other, twofold(other), thrown_end(dice, 2, words=("hi",))])
            every = list(itertools.product(range(len(end[1])), range(len(other[1]))))
            for many in range(len(every) + 1):
                for pairs in itertools.combinations(every, many):
                    is_one = closed(end, other, set(pairs))
                    shown += is_one
                    self.assertIs(shows_keeps(end, other, ("keeps", pairs)), is_one, (end, other, pairs))
        self.assertGreater(shown, 20)

    def test_all_short_papers_of_breaks(self):
        dice = random.Random(11)
        shown = 0
        for _ in range(40):
            other = thrown_end(dice, 2, words=("hi",))
            end = dice.choice([thrown_end(dice, 2, words=("hi",)), like_end(dice, other)])
            done = views_done(end, 3), views_done(other, 3)
            events = {step[:3] for each in (end, other) for state in each[1] for step in state} | {None, HO, OH}
            for view in list(done[0]) + list(done[1]):
                found = []
                if view in done[0] and view in done[1]:
                    found = breaking(end, done[0][view], other, done[1][view])
                for event in events:
                    told = shows_keeps(end, other, ("breaks", view, event))
                    self.assertIs(told, event in found, (end, other, view, event))
                    shown += told
        self.assertGreater(shown, 40)

    def test_pairs_need_not_be_the_told_ones(self):
        # A state that nobody comes to, with one that it keeps.
        pairs = ((0, 0), (1, 1), (1, 2), (2, 1), (2, 2))
        end = end_of({HI: 1}, {}, {})
        self.assertEqual(keeps(end, end), ("keeps", ((0, 0), (1, 1))))
        self.assertIs(shows_keeps(end, end, ("keeps", pairs)), True)
        self.assertIs(shows_keeps(end, end, ("keeps", pairs[:1] + pairs[2:])), False)
        self.assertIs(shows_keeps(end, end, ("keeps", pairs + ((2, 3),))), False)
        self.assertIs(shows_keeps(end, end, ("keeps", pairs + ((2, 2, 2),))), False)
        self.assertIs(shows_keeps(end, end, ("keeps", pairs[:4] + ((2, 2, 2),))), False)
        self.assertIs(shows_keeps(end, end, ("keeps", pairs[:4] + ((2,),))), False)
        self.assertIs(shows_keeps(end, end, ("keeps", pairs[::-1])), False)
        self.assertIs(shows_keeps(end, end, ("keeps", pairs + pairs[-1:])), False)
        self.assertIs(shows_keeps(end, end, ("keeps", pairs[1:])), False)
        self.assertIs(shows_keeps(end, end, ("keeps", ())), False)

    def test_papers_with_one_thing_otherwise(self):
        wrong = [True, False, None, [], {}, "", "keeps", "breaks", "bob", -1, 7, 10 ** 40 - 1, (), (0,), ((),), [0]]
        for end, other in ((ASKS, ASKS_LONG), (JUST_HI, BOTH_WORDS), (SHARP, JUST_HI)):
            paper = keeps(end, other)
            for thing in wrong:
                for broken in with_one_otherwise(paper, thing):
                    self.assertIs(shows_keeps(end, other, broken), same(broken, paper), broken)
            for broken in with_one_listed(paper):
                self.assertIs(shows_keeps(end, other, broken), False, broken)

    def test_truths_are_no_numbers(self):
        paper = keeps(JUST_HI, BOTH_WORDS)
        self.assertEqual(paper, ("keeps", ((False, False), (True, True))))
        self.assertIs(shows_keeps(JUST_HI, BOTH_WORDS, ("keeps", ((False, False), (True, True)))), False)
        self.assertIs(shows_keeps(JUST_HI, BOTH_WORDS, ("keeps", ((0, 0), (1, True)))), False)

    def test_false_of_anything(self):
        for end, other in ((ASKS, ASKS_LONG), (SHARP, JUST_HI), (MUTE, JUST_HI)):
            things = anything() + [(), 0, ("keeps",), ("breaks", ()), ("keeps", (), None), ("keep", ((0, 0),))]
            things += [["keeps", ((0, 0), (1, 1))], ("breaks", None, None), ("breaks", (HI, [FELL]), None)]
            things += [("breaks", (), HI, None), ("breaks", HI, None), ("breaks", "", None), ("breaks", {}, None)]
            paper = keeps(end, other)
            things += [paper + (None,), paper + ((),), paper[:-1], (paper,), ("keeps", paper), paper + paper]
            for thing in things:
                with self.subTest(thing=thing), Unchanged(self, thing):
                    self.assertIs(shows_keeps(end, other, thing), False)

    def test_papers_of_other_ends(self):
        ends = [BOTH_WORDS, JUST_HI, MORE_WORDS, DEAF, SHARP, MUTE, HEARS_OR_SAYS, HEARS, ASKS, ASKS_LONG, EVER, DONE]
        papers = [keeps(end, other) for end in ends for other in ends]
        for end, other in itertools.product(ends, ends):
            kind = keeps(end, other)[0]
            for paper in papers:
                if paper[0] != kind:
                    self.assertIs(shows_keeps(end, other, paper), False)

    def test_by_name_and_alike(self):
        told = keeps(other=BOTH_WORDS, end=JUST_HI)
        self.assertTrue(same(told, keeps(JUST_HI, BOTH_WORDS)))
        self.assertIs(shows_keeps(thing=told, other=BOTH_WORDS, end=JUST_HI), True)

    def test_no_end_then_no_hand(self):
        far = lasso(3, 0, "dora")
        for thing in no_ends():
            with self.subTest(thing=thing), Unchanged(self, thing):
                self.assertRaises(NoEnd, keeps, thing, ASKS)
                self.assertRaises(NoEnd, keeps, ASKS, thing)
                self.assertRaises(NoEnd, keeps, far, thing)
                self.assertRaises(NoEnd, shows_keeps, thing, thing, thing)
                self.assertRaises(NoEnd, shows_keeps, far, thing, None)
        for end, other in ((ASKS, far), (far, ASKS)):
            for asked in (lambda: keeps(end, other), lambda: shows_keeps(end, other, None)):
                with self.assertRaises(NoHand) as caught:
                    asked()
                self.assertEqual(caught.exception.hand, other[0])


if __name__ == "__main__":
    unittest.main()
