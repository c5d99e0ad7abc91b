"""The looks whether what is handed in is such at all: the same as slow ones, of anything."""

import random
import unittest

from sayloom.boards import is_board, is_name
from sayloom.ends import end_behind, events_at, is_done, is_end, is_event, is_view, least_end, unlike_view
from sayloom.errors import NoBoard, NoEnd, NoPlace, NoView
from sayloom.halls import are_ends
from sayloom.keeps import keeps, shows_keeps
from sayloom.made import made_end
from sayloom.making import is_let, made, stuck_kinds
from tests.kinds import GONE, ROUND, STUCK
from tests.machines import ASKS, ASKS_LONG, fan, lasso, line, thrown_end
from tests.samples import ASKING, BOTH, anything, chain, made_up_boards, ring, star, with_one_listed, with_one_otherwise
from tests.slow_looks import are_slow_ends, is_slow_board, is_slow_end, is_slow_event, is_slow_name

NAMES = [
    "", "a", "z", "abcdefgh", "abcdefghi", "aaaaaaaaaaaaaaaa", "Ann", "anN", "ANN", "a1", "1", "12345678", "an_n",
    "\u00e9", "an\u00e9", "\u00aa", "a\u00aa", "\u0430nn", "\u03b1", "\uff41", "\u0131", "\u00df", "\u65e5", "\u2170",
    "\u24d0", " ", "a b", " ann", "ann ", "\n", "ann\n", "\nann", "a\tb", "\x00", "a\x00", "!", "a!", "!a", "`", "{",
    "say", "hear", "fall", "none", "true", None, True, False, 0, 1, -1, 10 ** 39, [], ["ann"], (), ("ann",), {},
    {"ann": 1}, [[["ann"]]],
]
ODD = [
    None, True, False, 0, 1, 2, -1, 40, 100, 10 ** 39, "", "!", "ann", "bob", "eve", "hi", "zz", "say", "hear", "Ann",
    "abcdefghi", "\u00e9", [], (), {}, ["ann"], ("bob",), ("bob", "hi", 1), ["bob", "hi", 1], ("say", "bob", "hi", 0),
    [("say", "bob", "hi", 0)], {"bob": "hi"}, ((),), ([],), (None,),
]
ENDS = [ASKS, ASKS_LONG, fan(5), line(3), lasso(4, 1), ("ann", ((),))]
OTHERS = (("bob", (((("hear", "ann", "hi", 0)),),)), ("cy", ((),)))


class TestNames(unittest.TestCase):
    def test_names(self):
        for thing in NAMES + anything():
            with self.subTest(thing=thing):
                self.assertIs(is_name(thing), is_slow_name(thing))

    def test_just_small_letters_are_such(self):
        for code in [*range(0x250), *range(0x370, 0x530), *range(0x2100, 0x2190), *range(0xFF00, 0xFF60)]:
            self.assertIs(is_name(chr(code)), "a" <= chr(code) <= "z")
            self.assertIs(is_name("an" + chr(code) + "n"), "a" <= chr(code) <= "z")

    def test_events(self):
        for name in NAMES:
            for kind in ("say", "hear", "fall", "", "Say", None, True, ["say"], ("say",)):
                for thing in ((kind, name, "hi"), (kind, "bob", name), (kind, name, name), [kind, name, "hi"]):
                    with self.subTest(thing=thing):
                        self.assertIs(is_event(thing), is_slow_event(thing))

    def test_events_with_one_thing_otherwise(self):
        for event in (("say", "bob", "hi"), ("hear", "bob", "!"), ("hear", "ann", "no")):
            for other in ODD + anything():
                for thing in with_one_otherwise(event, other):
                    self.assertIs(is_event(thing), is_slow_event(thing))
                    self.assertIs(is_view((event, thing)), is_slow_event(thing))
            self.assertFalse(is_event(event[:2]) or is_event(event + ("hi",)) or is_view([event]))


class TestEnds(unittest.TestCase):
    def test_ends_with_one_thing_otherwise(self):
        for end in ENDS:
            self.assertTrue(is_end(end))
            for other in ODD + [anything()[at] for at in (20, 26, 30, -8)]:
                for thing in with_one_otherwise(end, other):
                    self.assertIs(is_end(thing), is_slow_end(thing))
                    self.assertIs(are_ends((thing,) + OTHERS), are_slow_ends((thing,) + OTHERS))
            for thing in with_one_listed(end):
                self.assertFalse(is_end(thing))

    def test_steps_that_do_not_rise(self):
        two = (("hear", "bob", "hi", 0), ("say", "bob", "hi", 0))
        for steps in (two, two[::-1], two[:1] * 2, (two[0], two[0][:3] + (1,)), two + two[:1]):
            thing = ("ann", (steps, ()))
            self.assertIs(is_end(thing), is_slow_end(thing))
        self.assertTrue(is_end(("ann", (two, ()))))
        self.assertFalse(is_end(("ann", ((two[0], two[0][:3] + (1,)), ()))))

    def test_an_event_is_looked_at_by_each_end_anew(self):
        # bob's own name is none that his end may name, though ann's end does.
        one = ("ann", ((("say", "bob", "hi", 0),),))
        two = ("bob", ((("say", "bob", "hi", 0),),))
        self.assertTrue(is_end(one))
        self.assertFalse(is_end(two) or are_ends((one, two)))
        self.assertFalse(are_ends((("ann", ((("say", "cy", "hi", 0),),)), ("bob", ((),)))))

    def test_numbers_of_states(self):
        for many in (1, 2, 99, 100, 101):
            for then in (-1, 0, many - 1, many, True, False, None, "0"):
                thing = ("ann", ((("say", "bob", "hi", then),),) + ((),) * (many - 1))
                self.assertIs(is_end(thing), is_slow_end(thing))

    def test_all_refuse_what_is_no_end(self):
        for thing in anything() + [("ann", ((("say", "bob", "hi", True),), ()))]:
            for call in (
                lambda: end_behind(thing, ()), lambda: events_at(thing, 0), lambda: is_done(thing, 0),
                lambda: least_end(thing), lambda: unlike_view(thing, ASKS), lambda: unlike_view(ASKS, thing),
                lambda: keeps(thing, ASKS), lambda: keeps(ASKS, thing), lambda: shows_keeps(ASKS, thing, None),
            ):
                self.assertRaises(NoEnd, call)

    def test_a_row_of_events_is_looked_at_beyond_what_is_done(self):
        done = (("say", "bob", "hi"), ("hear", "bob", "yes"), ("say", "bob", "hi"))
        undone = (("say", "eve", "hi"), ("hear", "eve", "!"))
        for row in (done, done + undone, undone, undone + done):
            for other in ODD:
                for view in with_one_otherwise(row, other):
                    if type(view) is tuple and all(map(is_slow_event, view)):
                        end_behind(ASKS, view)
                        self.assertRaises(NoPlace, end_behind, ASKS, view, start=3)
                    else:
                        self.assertRaises(NoView, end_behind, ASKS, view)
                        self.assertRaises(NoView, end_behind, ASKS, view, start=3)
        self.assertEqual(end_behind(ASKS, done), 1)
        self.assertIsNone(end_behind(ASKS, done + undone))
        for start in (True, None, -1, 3, "0", [0], (0,)):
            self.assertRaises(NoPlace, end_behind, ASKS, done, start=start)

    def test_a_long_row_is_walked_round(self):
        ring_end = lasso(100, 0)
        self.assertEqual(end_behind(ring_end, (("say", "bob", "hi"),) * 399), 99)
        self.assertIsNone(end_behind(ring_end, (("say", "bob", "hi"),) * 399 + (("say", "bob", "no"),)))

    def test_thrown_ends(self):
        dice = random.Random(9)
        for _ in range(150):
            end = thrown_end(dice, 5)
            self.assertTrue(is_end(end) and is_slow_end(end))
            self.assertEqual(keeps(end, end)[0], "keeps")


class TestBoards(unittest.TestCase):
    def test_boards_with_one_thing_otherwise(self):
        for board in (ASKING, BOTH, GONE, ROUND, star(2), ring(2), chain(2)):
            self.assertTrue(is_board(board))
            for other in ODD:
                for thing in with_one_otherwise(board, other):
                    self.assertIs(is_board(thing), is_slow_board(thing))
            for thing in with_one_listed(board):
                self.assertFalse(is_board(thing))

    def test_words_that_stand_at_many_places(self):
        for word in NAMES:
            board = (("ann", "bob"), (), (("ann", (("bob", word, 1),)), ("bob", (("ann", word, 0),))))
            with self.subTest(word=word):
                self.assertIs(is_board(board), is_slow_board(board))

    def test_thrown_boards(self):
        for board in made_up_boards(40, 11) + STUCK:
            self.assertTrue(is_board(board))
            for other in (None, True, 0, 1, "!", "ann", "hi", ()):
                for thing in with_one_otherwise(board[2], other):
                    self.assertIs(is_board(board[:2] + (thing,)), is_slow_board(board[:2] + (thing,)))

    def test_all_refuse_what_is_no_board(self):
        for thing in anything():
            for call in (lambda: made(thing), lambda: is_let(thing), lambda: made_end(thing, "ann"),
                         lambda: stuck_kinds(thing, "ann")):
                self.assertRaises(NoBoard, call)


if __name__ == "__main__":
    unittest.main()
