"""Ends, states and events (3.1), what does alike (3.2), and the interface's part sayloom/ends.py."""

import random
import unittest

from sayloom.ends import BEGIN, end_behind, events_at, is_done, is_end, least_end, unlike_view
from sayloom.errors import NoEnd, NoHand, NoPlace, NoView
from tests.machines import (
    ASKS, ASKS_LONG, DONE, EVER, fan, lasso, like_end, line, thrown_end, twofold, views_done, walk,
)
from tests.samples import PAIR, Unchanged, anything, same, with_one_listed, with_one_otherwise

ENDS = [ASKS, ASKS_LONG, DONE, EVER, lasso(100, 0), lasso(100, 99), line(99), fan(100)]
HI = ("say", "bob", "hi")
FELL = ("hear", "bob", "!")
NO = ("hear", "bob", "no")
YES = ("hear", "bob", "yes")


def no_ends():
    return anything() + [
        (), 0, 1, ("ann", ()), ("ann", None), ("ann", [()]), ("ann", ({},)), ("ann", ((),), ()), ("ann",),
        ["ann", ((),)], ("Ann", ((),)), ("", ((),)), ("annabella", ((),)), (None, ((),)), (("ann",), ((),)),
        lasso(101, 0), line(100),
    ]


def ends_by(step):
    """An end of two states the first of which has one step."""
    return "ann", ((step,), ())


class TestIsEnd(unittest.TestCase):
    def yes(self, *things):
        for thing in things:
            with self.subTest(thing=thing), Unchanged(self, thing):
                self.assertIs(is_end(thing), True)
                self.assertIs(is_end(thing=thing), True)

    def no(self, *things):
        for thing in things:
            with self.subTest(thing=thing), Unchanged(self, thing):
                self.assertIs(is_end(thing), False)

    def test_ordinary_ends(self):
        self.yes(*ENDS)
        dice = random.Random(1)
        self.yes(*[thrown_end(dice) for _ in range(50)])

    def test_of_anything(self):
        self.no(*no_ends(), PAIR)

    def test_one_to_a_hundred_states(self):
        self.yes(lasso(1, 0), lasso(100, 0), line(99))
        self.no(lasso(101, 0), line(100), ("ann", ()))

    def test_the_hand_is_a_name(self):
        self.yes(("a", ((),)), ("abcdefgh", ((),)))
        self.no(("abcdefghi", ((),)), ("", ((),)), ("A", ((),)), ("!", ((),)))

    def test_steps(self):
        self.yes(*[ends_by(step) for step in (
            ("say", "bob", "hi", 1), ("hear", "bob", "hi", 0), ("hear", "bob", "!", 1), ("say", "b", "a", 1),
            ("say", "abcdefgh", "abcdefgh", 1), ("say", "bob", "bob", 1), ("say", "bob", "ann", 1),
        )])
        self.no(*[ends_by(step) for step in (
            ("say", "bob", "!", 1), ("say", "ann", "hi", 1), ("hear", "ann", "hi", 1), ("hear", "ann", "!", 1),
            ("fall", "bob", "hi", 1), ("Say", "bob", "hi", 1), ("", "bob", "hi", 1), (None, "bob", "hi", 1),
            (True, "bob", "hi", 1), (["say"], "bob", "hi", 1), ("say", "Bob", "hi", 1), ("say", "", "hi", 1),
            ("say", None, "hi", 1), ("say", ("bob",), "hi", 1), ("say", "bob", "", 1), ("say", "bob", "Hi", 1),
            ("say", "bob", "abcdefghi", 1), ("say", "bob", None, 1), ("hear", "bob", "!!", 1),
            ("hear", "bob", ["!"], 1), ("hear", "bob", "hi!", 1), ("say", "bob", "hi", 2),
            ("say", "bob", "hi", -1), ("say", "bob", "hi", True),
            ("say", "bob", "hi", False), ("say", "bob", "hi", None), ("say", "bob", "hi", "1"),
            ("say", "bob", "hi", 10 ** 39), ("say", "bob", "hi"), ("say", "bob", "hi", 1, 1),
            ["say", "bob", "hi", 1], (), None, True, "hear", {},
        )])

    def test_steps_rise_and_no_two_have_the_same_event(self):
        two = (("hear", "bob", "hi", 1), ("hear", "bob", "no", 1))
        self.yes(("ann", (two, ())), ("ann", ((("hear", "bob", "!", 1),) + two, ())))
        self.no(("ann", (two[::-1], ())), ("ann", (two + two[1:], ())))
        self.no(("ann", ((("hear", "bob", "hi", 0), ("hear", "bob", "hi", 1)), ())))
        self.yes(("ann", ((("hear", "bob", "hi", 0), ("say", "bob", "hi", 1)), ())))
        self.yes(("ann", ((("hear", "bob", "hi", 1), ("hear", "cy", "hi", 0)), ())))

    def test_states_that_nobody_comes_to_may_stand(self):
        self.yes(("ann", ((), (), ())), ASKS_LONG)

    def test_each_part_of_an_end_is_looked_at(self):
        for end in (ASKS, EVER, ASKS_LONG):
            for thing in [True, False, [], {}, "", "Ann", "eve!", [1], {"a": 1}, -1, 10 ** 40 - 1, (1,)]:
                self.no(*with_one_otherwise(end, thing))
            self.no(*with_one_listed(end))


class Refusing(unittest.TestCase):
    """Tests that look at what is refused."""

    def no_end(self, asked, *more):
        for thing in no_ends():
            with self.subTest(thing=thing), Unchanged(self, thing):
                self.assertRaises(NoEnd, asked, thing, *more)


class TestEndBehind(Refusing):
    def test_where_a_row_of_events_leads(self):
        for view, state in (((), 0), ((HI,), 1), ((HI, YES), 0), ((HI, YES, HI, NO), 2), ((HI, FELL), 2)):
            self.assertTrue(same(end_behind(ASKS, view), state))
        for view in ((YES,), (HI, HI), (HI, FELL, HI), (("say", "bob", "no"),), (("say", "cy", "hi"),),
                     (("hear", "bob", "hi"),), (("say", "ann", "hi"),), (HI, YES, HI, YES, HI, ("hear", "eve", "hi"))):
            self.assertIsNone(end_behind(ASKS, view))
        self.assertEqual(end_behind(lasso(100, 40), (HI,) * 399), 39 + (399 - 39) - 60 * 5)

    def test_from_a_state_on(self):
        self.assertEqual(end_behind(ASKS, (YES,), start=1), 0)
        self.assertIsNone(end_behind(ASKS, (HI,), start=1))
        self.assertEqual(end_behind(ASKS, (), start=2), 2)
        self.assertEqual(end_behind(ASKS_LONG, (("say", "cy", "hi"),), start=6), 6)
        self.assertEqual(BEGIN, 0)

    def test_as_slowly_worked_out(self):
        dice = random.Random(3)
        for _ in range(60):
            end = thrown_end(dice)
            done = views_done(end, 3)
            other = views_done(thrown_end(dice), 3)
            for view in list(done) + list(other):
                self.assertTrue(same(end_behind(end, view), done.get(view)))

    def test_events_and_done_states(self):
        self.assertTrue(same(events_at(ASKS, 1), (FELL, NO, YES)))
        self.assertTrue(same(events_at(ASKS, 0), (HI,)))
        self.assertTrue(same(events_at(ASKS, 2), ()))
        self.assertEqual(len(events_at(fan(100), 0)), 100)
        self.assertEqual([is_done(ASKS, state) for state in range(3)], [False, False, True])
        self.assertIs(is_done(DONE, 0), True)
        self.assertIs(is_done(EVER, 0), False)

    def test_by_name_and_alike(self):
        with Unchanged(self, ASKS):
            self.assertEqual(end_behind(start=1, view=(YES,), end=ASKS), 0)
            self.assertEqual(end_behind(view=(HI,), end=ASKS), 1)
            self.assertRaises(TypeError, end_behind, ASKS, (YES,), 1)
            self.assertEqual(events_at(state=1, end=ASKS), events_at(ASKS, 1))
            self.assertIs(is_done(state=2, end=ASKS), True)

    def test_no_end_of_anything_ahead_of_all_else(self):
        self.no_end(end_behind, (HI,))
        self.no_end(end_behind, None)
        for asked in (events_at, is_done):
            self.no_end(asked, 0)
            self.no_end(asked, None)

    def test_no_view_of_anything_ahead_of_no_place(self):
        wrong = anything() + [0, HI, [HI], (list(HI),), (HI, None), (HI, (HI,)), (HI + (1,),), (HI[:2],), {HI: 1}]
        wrong += [(("say", "bob", "!"),), (("hear", "Bob", "hi"),), (("fall", "bob", "hi"),), (("hear", "bob", True),)]
        for thing in wrong:
            with self.subTest(thing=thing), Unchanged(self, thing):
                self.assertRaises(NoView, end_behind, ASKS, thing)
                self.assertRaises(NoView, end_behind, ASKS, thing, start=3)

    def test_no_place_of_anything(self):
        for thing in anything() + [(), 3, 100, [1], (1,), "0", True]:
            with self.subTest(thing=thing), Unchanged(self, thing):
                for asked in (events_at, is_done):
                    with self.assertRaises(NoPlace) as caught:
                        asked(ASKS, thing)
                    self.assertTrue(same(caught.exception.place, thing))
                with self.assertRaises(NoPlace) as caught:
                    end_behind(ASKS, (), start=thing)
                self.assertTrue(same(caught.exception.place, thing))


class TestAlike(Refusing):
    def test_ends_that_do_alike_have_no_unlike_view(self):
        for end in ENDS + [lasso(7, 3)]:
            self.assertIsNone(unlike_view(end, end))
        self.assertIsNone(unlike_view(ASKS, ASKS_LONG))
        self.assertIsNone(unlike_view(ASKS_LONG, ASKS))
        self.assertIsNone(unlike_view(EVER, lasso(100, 37)))
        self.assertIsNone(unlike_view(lasso(99, 0), lasso(100, 0)))

    def test_the_least_row_that_just_one_does(self):
        self.assertTrue(same(unlike_view(ASKS, DONE), (HI,)))
        self.assertEqual(unlike_view(DONE, ASKS), (HI,))
        self.assertEqual(unlike_view(EVER, ASKS), (HI, FELL))
        self.assertEqual(unlike_view(line(40), EVER), (HI,) * 41)
        self.assertEqual(unlike_view(line(99), line(98)), (HI,) * 99)

    def test_shortest_ahead_of_least_and_least_of_the_shortest(self):
        deep = ("ann", ((("hear", "bob", "a", 1), ("say", "bob", "z", 2)), (("hear", "bob", "a", 2),), ()))
        flat = ("ann", ((("hear", "bob", "a", 1),), ()))
        # Behind the lesser event they part later than by the greater one.
        self.assertEqual(unlike_view(deep, flat), (("say", "bob", "z"),))
        one = ("ann", ((("hear", "bob", "b", 1), ("say", "bob", "a", 1)), (("say", "cy", "no", 0),)))
        two = ("ann", ((("hear", "bob", "b", 1), ("say", "bob", "a", 1)), (("say", "bob", "yes", 0),)))
        self.assertEqual(unlike_view(one, two), (("hear", "bob", "b"), ("say", "bob", "yes")))

    def test_as_slowly_worked_out(self):
        dice = random.Random(4)
        unlike = 0
        for _ in range(300):
            end = thrown_end(dice, 3)
            other = dice.choice([twofold(end), like_end(dice, end), thrown_end(dice, 3), like_end(dice, twofold(end))])
            rows = set(views_done(end, 6)) ^ set(views_done(other, 6))
            told = unlike_view(end, other)
            least = min(rows, key=lambda row: (len(row), row)) if rows else None
            if told is None or len(told) <= 6:
                self.assertTrue(same(told, least), (end, other))
            else:
                self.assertIsNone(least)
                self.assertNotEqual(walk(end, told) is None, walk(other, told) is None)
            unlike += told is not None
        self.assertGreater(unlike, 100)
        self.assertLess(unlike, 260)

    def test_the_fewest_states_as_they_first_come(self):
        self.assertTrue(same(least_end(ASKS_LONG), ASKS))
        self.assertTrue(same(least_end(ASKS), ASKS))
        self.assertEqual(least_end(DONE), DONE)
        self.assertEqual(least_end(lasso(100, 37)), EVER)
        self.assertEqual(least_end(line(99)), line(99))
        self.assertEqual(least_end(("ann", ((), (("say", "bob", "hi", 0),)))), DONE)
        turned = ("ann", ((("hear", "bob", "a", 2), ("say", "bob", "b", 1)), (("say", "bob", "x", 0),), ()))
        told = ("ann", ((("hear", "bob", "a", 1), ("say", "bob", "b", 2)), (), (("say", "bob", "x", 0),)))
        self.assertEqual(least_end(turned), told)

    def test_least_ends_of_thrown_ones(self):
        dice = random.Random(5)
        for _ in range(200):
            end = thrown_end(dice, 5)
            least = least_end(end)
            self.assertIs(is_end(least), True)
            self.assertEqual((least[0], unlike_view(end, least)), (end[0], None))
            self.assertTrue(same(least_end(least), least))
            self.assertTrue(same(least_end(twofold(end)), least))
            self.assertEqual(len(least[1]), self.unlike_states(end))
            self.assertEqual(self.as_they_come(least), list(range(len(least[1]))))

    def unlike_states(self, end):
        """How many states that are come to do unlike rows of events."""
        hand, states = end
        first = [at for at in self.as_they_come(end)]
        rows = [frozenset(views_done((hand, self.begun(states, at)), 5)) for at in first]
        return len(set(rows))

    def begun(self, states, at):
        """The states with another begin: that one comes first, and nothing else is renumbered but it and 0."""
        swap = {0: at, at: 0}
        turned = [tuple(step[:3] + (swap.get(step[3], step[3]),) for step in state) for state in states]
        turned[0], turned[at] = turned[at], turned[0]
        return tuple(turned)

    def as_they_come(self, end):
        told = [0]
        for at in told:
            for step in end[1][at]:
                if step[3] not in told:
                    told.append(step[3])
        return told

    def test_ends_do_alike_just_where_their_least_ends_are_the_same(self):
        dice = random.Random(6)
        for _ in range(200):
            end = thrown_end(dice, 3, words=("hi",))
            other = dice.choice([thrown_end(dice, 3, words=("hi",)), like_end(dice, twofold(end)), twofold(end)])
            self.assertIs(least_end(end) == least_end(other), unlike_view(end, other) is None)

    def test_by_name_and_unchanged(self):
        with Unchanged(self, ASKS, ASKS_LONG):
            self.assertEqual(least_end(end=ASKS_LONG), ASKS)
            self.assertIsNone(unlike_view(other=ASKS, end=ASKS_LONG))
            self.assertEqual(unlike_view(other=DONE, end=ASKS), unlike_view(ASKS, DONE))

    def test_no_end_then_no_hand(self):
        self.no_end(least_end)
        self.no_end(unlike_view, ASKS)
        self.no_end(unlike_view, None)
        for thing in no_ends():
            self.assertRaises(NoEnd, unlike_view, ASKS, thing)
            self.assertRaises(NoEnd, unlike_view, lasso(3, 0, "dora"), thing)
        for end, other in ((ASKS, lasso(3, 0, "dora")), (lasso(3, 0, "dora"), ASKS)):
            with self.assertRaises(NoHand) as caught:
                unlike_view(end, other)
            self.assertEqual(caught.exception.hand, other[0])


if __name__ == "__main__":
    unittest.main()
