"""Ways on (8.1 to 8.4), and the interface's part sayloom/ways.py."""

import random
import unittest

from sayloom.errors import NoBoard, NoEnds, NoHand, TooWide
from sayloom.halls import Hall, hall_behind
from sayloom.made import sets_of
from sayloom.making import is_let, made
from sayloom.texts import read_talk
from sayloom.ways import settled, shows_settled, shows_waits, shows_way, waits, way_on, ways_on
from tests.kinds import ALONE, APART, GONE, LET, LIKE_DEEDS, LIKE_HANDS, ROUND, SIX, TOO_WIDE, renamed
from tests.samples import (
    ASKING, BOARDS, PAIR, Unchanged, anything, chain, made_up_boards, ring, same, with_one_listed, with_one_otherwise,
)
from tests.slow_ways import is_slow_settled, is_slow_waits, is_slow_way, slow_waits
from tests.test_halls import TALK, WEAK, told_of
from tests.test_stands import BUT_FOR_FALLS, STUCK_ONE

THROWN = made_up_boards(120, 23)
LET_ONES = LET + [renamed(GONE, LIKE_HANDS), renamed(ROUND, LIKE_DEEDS)] + [b for b in THROWN if is_let(b)]


def hall_of(board, room=None, deeds=()):
    hall = Hall(made(board)[1], room=room, weak=board[1])
    for deed in deeds:
        hall.do(deed)
    return hall


def thrown_hall(board, dice, room, most):
    """A hall of a board's made ends in which dice chose what was done."""
    hall = hall_of(board, room)
    for _ in range(dice.randint(0, most)):
        deeds = [deed for deed in hall.can_do() if deed[0] != "fall" or dice.random() < 0.15]
        if not deeds:
            break
        hall.do(dice.choice(deeds))
    return hall


class TestWaits(unittest.TestCase):
    def test_small_ones(self):
        self.assertEqual(waits(PAIR), ((0, None), (0, None)))
        self.assertEqual(waits(board=ring(2)), ((0, 0), (0, 0)))
        self.assertEqual(waits(SIX)[0], (0, 4, 3, 2, 1, 0))
        self.assertEqual(waits(chain(1)), ((None,), (None,)))
        self.assertEqual(waits(ASKING)[2], (0, 1, None, 0, 1))
        # cy hears nothing at the place of ann's fault, though bob says it to cy there.
        self.assertEqual(waits(GONE), ((0, None, None, None), (0, 0, 0, None), (1, 0, 0, None)))

    def test_a_fault_is_no_branch_with_a_word(self):
        board = (("ann", "bob", "cy"), ("ann",), (
            ("ann", (("bob", "!", 1), ("cy", "hi", 2))), ("bob", (("cy", "gone", 2),)), None,
        ))
        self.assertEqual(waits(board), ((0, None, None), (None, 0, None), (0, 0, None)))

    def test_as_slow_ones(self):
        for board in BOARDS + LET + THROWN:
            with Unchanged(self, board):
                told = waits(board)
                self.assertTrue(same(told, slow_waits(board)))
                self.assertIs(shows_waits(board, told), True)

    def test_one_number_otherwise(self):
        seen = set()
        for board in [ASKING, SIX, GONE, ROUND, ring(3), chain(4)] + THROWN[:25]:
            told = waits(board)
            for other in (None, 0, 1, 2, 3, 4, 9, 10 ** 39, -1, True, False, "0", (), [0]):
                for thing in with_one_otherwise(told, other):
                    seen.add(is_slow_waits(board, thing))
                    self.assertIs(shows_waits(board, thing), is_slow_waits(board, thing), (board, thing))
            for thing in with_one_listed(told):
                self.assertIs(shows_waits(board, thing=thing), False)
            for thing in (told[:-1], told + told[:1], told[::-1], (told[0][:-1],) + told[1:]):
                self.assertIs(shows_waits(board, thing), is_slow_waits(board, thing))
        self.assertEqual(seen, {True, False})

    def test_greater_ones_are_waits(self):
        told = tuple(tuple(number and number * 7 for number in row) for row in waits(SIX))
        self.assertIs(shows_waits(SIX, told), True)
        # A ring in which each waits for the next one only is none.
        self.assertIs(shows_waits(APART, waits(APART)), True)
        row = (0, 1, 1, 1, 1, 0)
        self.assertIs(shows_waits(SIX, (row,) + waits(SIX)[1:]), False)

    def test_none_on_a_ring(self):
        board = (("ann", "bob", "cy"), (), (
            ("ann", (("bob", "hi", 1), ("cy", "hi", 1))), ("ann", (("bob", "no", 1),)),
        ))
        self.assertEqual(waits(board), ((0, 0), (0, 0), (0, None)))
        self.assertIs(shows_waits(board, waits(board)[:2] + ((0, 1),)), False)

    def test_refused(self):
        for thing in anything():
            self.assertRaises(NoBoard, waits, thing)
            self.assertRaises(NoBoard, shows_waits, thing, None)
            self.assertIs(shows_waits(PAIR, thing), False)
            self.assertIs(shows_waits(PAIR, (thing, thing)), False)


class TestWays(unittest.TestCase):
    def test_a_short_one(self):
        hall = hall_of(GONE)
        self.assertEqual(way_on(GONE, hall, hand="cy")[-1], ("hear", "cy", "bob"))
        self.assertEqual(way_on(board=GONE, hall=hall, hand="ann"), (("say", "ann", "bob", "go"),))
        hall.do(("fall", "ann"))
        self.assertIsNone(way_on(GONE, hall, hand="ann"))
        self.assertEqual(way_on(GONE, hall, hand="cy"), (
            ("hear", "bob", "ann"), ("say", "bob", "cy", "gone"), ("hear", "cy", "bob"),
        ))
        self.assertEqual(list(ways_on(board=GONE, hall=hall)), ["bob", "cy"])

    def test_of_all_that_is_done(self):
        dice = random.Random(3)
        for board in LET_ONES:
            for room in (1, 2, 9, None):
                hall = thrown_hall(board, dice, room, 30)
                ahead, counts = told_of(hall), hall.counts()
                with Unchanged(self, board):
                    ways = ways_on(board, hall)
                    self.assertEqual(list(ways), [h for h in board[0] if h not in hall.fallen() and not hall.is_done(h)])
                    for hand in board[0]:
                        way = way_on(board, hall, hand=hand)
                        self.assertTrue(is_slow_way(hall, way, hand), (board, hall.log(), hand, way))
                        self.assertTrue(is_slow_way(hall, ways.get(hand), hand))
                        self.assertIs(shows_way(hall, way, hand=hand), True)
                        twin = hall.twin()
                        if way is not None:
                            twin.all_of(way)
                            self.assertEqual(len(twin.view_of(hand)), len(hall.view_of(hand)) + 1)
                    self.assertEqual(ways_on(board, hall), ways)
                    self.assertEqual((told_of(hall), hall.counts()), (ahead, counts))

    def test_by_words_to_a_fallen_one(self):
        board = read_talk("hands(ann bob *cy) begin bob { cy w bob { ann x . } }")
        self.assertEqual(made(board)[0], "made")
        hall = hall_of(board, deeds=(("fall", "cy"),))
        self.assertEqual(way_on(board, hall, hand="ann"), (
            ("say", "bob", "cy", "w"), ("say", "bob", "ann", "x"), ("hear", "ann", "bob"),
        ))
        hall = hall_of(board)
        self.assertIn(("hear", "ann", "bob"), way_on(board, hall, hand="ann"))

    def test_long_logs(self):
        dice = random.Random(4)
        for board in (ROUND, SIX, ring(40), APART):
            hall = thrown_hall(board, dice, 2, 400)
            for hand in board[0]:
                self.assertTrue(shows_way(hall, way_on(board, hall, hand=hand), hand=hand))

    def test_ways_on_till_all_are_done(self):
        dice = random.Random(6)
        for board in [PAIR, GONE, APART, chain(40)]:
            for room in (1, 2, None):
                hall = thrown_hall(board, dice, room, 3)
                while ways_on(board, hall):
                    hall.all_of(dice.choice(list(ways_on(board, hall).values())))
                self.assertTrue(all(hall.is_done(hand) or hand in hall.fallen() for hand in board[0]))

    def test_refused_in_this_order(self):
        hall = hall_of(GONE)
        stuck = ALONE["mixed"]
        calls = [lambda board, hall: way_on(board, hall, hand=None), ways_on, settled,
                 lambda board, hall: shows_settled(board, hall, None)]
        for call in calls:
            for thing in anything():
                self.assertRaises(NoBoard, call, thing, hall)
            self.assertRaises(TooWide, call, TOO_WIDE, hall)
            self.assertRaises(NoEnds, call, stuck, hall)
            self.assertRaises(NoEnds, call, PAIR, hall)
            # Other weak hands, another order, ends that do alike.
            ends = made(GONE)[1]
            self.assertRaises(NoEnds, call, GONE, Hall(ends))
            self.assertRaises(NoEnds, call, GONE, Hall(ends, weak=("ann", "bob")))
            self.assertRaises(NoEnds, call, GONE, Hall(ends[::-1], weak=("ann",)))
            self.assertRaises(NoEnds, call, GONE, Hall(ends[:2] + (("cy", ends[2][1] + ((),)),), weak=("ann",)))
        for hand in anything():
            with self.assertRaises(NoHand) as caught:
                way_on(GONE, hall, hand=hand)
            self.assertTrue(same(caught.exception.hand, hand))
            with self.assertRaises(NoHand):
                shows_way(hall, (), hand=hand)


class TestShowsWay(unittest.TestCase):
    def test_none_alone_of_the_done_and_the_fallen(self):
        hall = hall_of(GONE, deeds=(("say", "ann", "bob", "go"),))
        self.assertIs(shows_way(hall, None, hand="ann"), True)
        hall.fall("ann")
        for thing in anything()[1:] + [(("hear", "bob", "ann"),), ()]:
            self.assertIs(shows_way(hall, thing, hand="ann"), False)
        self.assertIs(shows_way(hall, None, hand="ann"), True)
        self.assertIs(shows_way(hall, None, hand="bob"), False)
        for thing in anything():
            with Unchanged(self, thing):
                self.assertIs(shows_way(hall=hall, thing=thing, hand="cy"), False)

    def test_of_whatever_ends(self):
        hall = Hall(STUCK_ONE, room=1)
        self.assertIs(shows_way(hall, (("say", "ann", "cy", "hi"),), hand="ann"), True)
        self.assertIs(shows_way(hall, (("say", "ann", "cy", "hi"), ("hear", "cy", "ann")), hand="cy"), True)
        self.assertIs(shows_way(hall, (("say", "ann", "cy", "hi"), ("hear", "cy", "ann")), hand="bob"), False)

    def test_deeds_out_twice_exchanged(self):
        dice = random.Random(12)
        for board in [board for board in LET_ONES[:40] if len(board[2]) < 6]:
            hall = thrown_hall(board, dice, dice.choice([1, 2, None]), 6)
            for hand, way in ways_on(board, hall).items():
                things = [way[:at] + way[at + 1:] for at in range(len(way))]
                things += [way[:at] + way[at:at + 1] + way[at:] for at in range(len(way))]
                things += [way[:at] + way[at:at + 2][::-1] + way[at + 2:] for at in range(len(way) - 1)]
                things += [way[:-1] + (("fall", name),) + way[-1:] for name in board[0]]
                things += [(("fall", name),) + way for name in board[0]]
                things += [way + (deed,) for deed in hall.can_do()] + [way[::-1], list(way)]
                things += [thing for other in ("ann", "bob", "hi", None, [], True) for thing in with_one_otherwise(way, other)]
                for name in board[0]:
                    for thing in things + [way]:
                        self.assertIs(shows_way(hall, thing, hand=name), is_slow_way(hall, thing, name), (thing, name))

    def test_no_word_more_than_the_room_lets(self):
        hall = Hall(TALK, room=1, weak=WEAK)
        way = (("say", "ann", "bob", "hi"),)
        self.assertIs(shows_way(hall, way, hand="ann"), True)
        hall.do(way[0])
        self.assertIs(shows_way(hall, way, hand="ann"), False)
        self.assertIs(shows_way(hall, (("hear", "bob", "ann"),) + way, hand="ann"), True)
        self.assertEqual(len(hall), 1)


class TestSettled(unittest.TestCase):
    def test_a_small_one(self):
        hall = hall_of(GONE, deeds=(("say", "ann", "bob", "go"), ("fall", "ann")))
        self.assertEqual(settled(board=GONE, hall=hall), ((("hear", "bob", "ann"),), (("ann", "bob", "go"),)))

    def test_of_all_that_is_done(self):
        dice = random.Random(8)
        for board in LET_ONES:
            for room in (1, 2, 9, None):
                hall = thrown_hall(board, dice, room, 25)
                ahead, counts = told_of(hall), hall.counts()
                told = settled(board, hall)
                self.assertTrue(is_slow_settled(board, hall, told), (board, hall.log(), told))
                self.assertIs(shows_settled(board, hall, told), True)
                self.assertEqual(settled(board, hall), told)
                self.assertEqual((told_of(hall), hall.counts()), (ahead, counts))
                behind = hall.twin()
                behind.all_of(told[0]) if told[0] else None
                # All that was said to living hands is heard: faults alone are left.
                self.assertLessEqual(set(behind.under_way().values()), {("!",)})

    def test_something_otherwise(self):
        dice = random.Random(9)
        seen = set()
        for board in LET_ONES[:60]:
            hall = thrown_hall(board, dice, dice.choice([1, 2, None]), 12)
            deeds, row = settled(board, hall)
            things = [(deeds[:-1], row), (deeds + hall.can_do()[:1], row), (deeds, row[:-1]), (deeds, row + row), (row, deeds)]
            for at in range(len(deeds) - 1):
                things.append((deeds[:at] + deeds[at:at + 2][::-1] + deeds[at + 2:], row))
            for at in range(len(row)):
                things.append((deeds, row[:at] + row[at + 1:]))
            at = 0
            for saying in row:
                at = {(board[2][at][0], to, word): then for to, word, then in board[2][at][1]}[saying]
            for to, word, _ in board[2][at][1] if board[2][at] else ():
                more = (board[2][at][0], to, word)
                things.append((deeds, row + (more,)))
                things.append((deeds + (("say",) + more, ("hear", to, more[0])), row + (more,)))
                things.append((deeds + (("say",) + more,), row + (more,)))
            things += [thing for other in ("ann", "!", None, ()) for thing in with_one_otherwise((deeds, row), other)]
            things += list(with_one_listed((deeds, row))) + [(deeds, row, ()), (deeds,)]
            for thing in things:
                told = is_slow_settled(board, hall, thing)
                seen.add(told)
                self.assertIs(shows_settled(board, hall, thing), told, (board, hall.log(), thing))
        self.assertEqual(seen, {True, False})

    def test_false_of_anything(self):
        hall = hall_of(GONE)
        for thing in anything():
            with Unchanged(self, thing):
                self.assertIs(shows_settled(GONE, hall, thing), False)
                self.assertIs(shows_settled(board=GONE, hall=hall, thing=((), thing)), thing == ())
                self.assertIs(shows_settled(GONE, hall, (thing, ())), False)
        self.assertIs(shows_settled(GONE, hall, ((), ())), True)

    def test_falls_unnoticed_and_noticed(self):
        hall = hall_of(GONE, deeds=(("fall", "ann"),))
        self.assertIs(shows_settled(GONE, hall, ((), ())), True)
        heard = (("hear", "bob", "ann"),)
        self.assertIs(shows_settled(GONE, hall, (heard, (("ann", "bob", "!"),))), True)
        self.assertIs(shows_settled(GONE, hall, ((), (("ann", "bob", "!"),))), False)
        self.assertIs(shows_settled(GONE, hall, ((), (("ann", "bob", "go"),))), False)
        # A fallen one may have more to hear in the row.
        log = (("say", "ann", "bob", "hi"), ("hear", "bob", "ann", "hi"), ("say", "bob", "ann", "ok"), ("fall", "ann"))
        hall = hall_behind(made(ROUND)[1], log, weak=ROUND[1])
        row = (("ann", "bob", "hi"), ("bob", "ann", "ok"))
        self.assertIs(shows_settled(ROUND, hall, ((), row)), True)
        self.assertIs(shows_settled(ROUND, hall, ((), row + (("ann", "bob", "stop"),))), False)
        # To a fallen one a living one can't have fallen, nor a fallen one said what it didn't.
        fell = hall_behind(made(ROUND)[1], (("fall", "bob"),), weak=ROUND[1])
        self.assertIs(shows_settled(ROUND, fell, ((), ())), True)
        self.assertIs(shows_settled(ROUND, fell, ((), (("ann", "bob", "!"),))), False)
        fell.fall("ann")
        self.assertIs(shows_settled(ROUND, fell, ((), (("ann", "bob", "!"),))), True)
        self.assertIs(shows_settled(ROUND, fell, ((), (("ann", "bob", "hi"),))), False)


class TestNumbers(unittest.TestCase):
    def test_states_that_are_not_done_have_numbers(self):
        for board in LET_ONES:
            for hand, row in zip(board[0], waits(board)):
                for places, state in zip(sets_of(board, hand), dict(made(board)[1])[hand]):
                    self.assertIs(bool(state), None not in [row[at] for at in places])

    def test_a_hall_that_waits_has_no_way(self):
        hall = Hall(BUT_FOR_FALLS, room=1, weak=("ann",))
        hall.do(("fall", "ann"))
        hall.do(("hear", "bob", "ann"))
        self.assertEqual(hall.can_do(), ())
        self.assertIs(shows_way(hall, None, hand="cy"), False)


if __name__ == "__main__":
    unittest.main()
