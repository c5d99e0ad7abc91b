"""Ways over a net (10.4), and the interface's part sayloom/over.py."""

import random
import unittest

from sayloom.covers import covers, row_of
from sayloom.errors import NoBoard, NoEnds, NoHand, TooWide
from sayloom.halls import Hall
from sayloom.making import made
from sayloom.net import Net
from sayloom.over import shows_way_over, way_over
from sayloom.texts import read_talk
from sayloom.ways import way_on
from tests.kinds import ALONE, APART, GONE, ROUND, SIX, TOO_WIDE
from tests.samples import PAIR, Unchanged, anything, chain, ring, same, with_one_otherwise
from tests.slow_ways import is_slow_way_over
from tests.test_net import HI, WORD, net_behind, told_of
from tests.test_ways import LET_ONES


def thrown_net(board, dice, most):
    """A net of a board's made ends in which dice chose what was done, and that."""
    net = Net(made(board)[1], weak=board[1])
    deeds = []
    for _ in range(dice.randint(0, most)):
        some = [deed for deed in net.can_do() if deed[0] != "fall" or dice.random() < 0.1]
        some = [deed for deed in some if deed[0] not in ("lose", "double") or dice.random() < 0.4]
        if not some:
            break
        deeds.append(dice.choice(some))
        net.do(deeds[-1])
    return net, deeds


class TestWaysOver(unittest.TestCase):
    def test_small_ones(self):
        net = Net(made(GONE)[1], weak=GONE[1])
        self.assertEqual(way_over(board=GONE, net=net, hand="ann"), (("say", "ann", "bob", "go"),))
        self.assertEqual(way_over(GONE, net, hand="bob")[-1], ("carry", ("word", "ann", "bob", 1, "go")))
        net.do(("fall", "ann"))
        self.assertIsNone(way_over(GONE, net, hand="ann"))
        self.assertEqual(way_over(GONE, net, hand="bob")[-1], ("mark", "bob", "ann"))
        lost = Net(made(PAIR)[1])
        lost.all_of((("say", "ann", "bob", "hi"), ("lose", WORD)))
        self.assertIsNone(way_over(PAIR, lost, hand="ann"))
        self.assertEqual(way_over(PAIR, lost, hand="bob"), (("again", "ann"), ("carry", WORD)))

    def test_whatever_the_net_did(self):
        dice = random.Random(2)
        for board in LET_ONES:
            for _ in range(2):
                net, deeds = thrown_net(board, dice, 40)
                ahead, counts = told_of(net), net.counts()
                kind, row = row_of(board, net.log())
                self.assertEqual(kind, "row")
                self.assertTrue(covers(board, net.log(), row))
                for hand in board[0]:
                    way = way_over(board, net, hand=hand)
                    self.assertTrue(is_slow_way_over(net, deeds, way, hand), (board, deeds, hand, way))
                    self.assertIs(shows_way_over(net, way, hand=hand), True)
                    self.assertEqual(way, way_over(board, net, hand=hand))
                self.assertEqual((told_of(net), net.counts()), (ahead, counts))

    def test_on_till_all_are_done(self):
        dice = random.Random(3)
        for board in [PAIR, GONE, APART, chain(9), chain(40)]:
            net, _ = thrown_net(board, dice, 6)
            while True:
                ways = [way_over(board, net, hand=hand) for hand in board[0]]
                if not any(ways):
                    break
                net.all_of(dice.choice([way for way in ways if way is not None]))
            self.assertTrue(all(net.is_done(hand) or hand in net.fallen() for hand in board[0]))

    def test_a_mark_that_was_taken_ahead_of_its_time(self):
        board = read_talk("hands(*ann bob cy) begin cy { bob x ann { bob hi bob { cy ok . } | bob ! bob { cy gone . } } }")
        net = Net(made(board)[1], weak=("ann",))
        net.all_of((("fall", "ann"), ("mark", "bob", "ann"), ("mark", "cy", "ann")))
        self.assertEqual(net.view_of("bob"), ())
        self.assertEqual(way_over(board, net, hand="bob")[-1][0], "carry")
        net.all_of(way_over(board, net, hand="bob"))
        self.assertEqual(way_over(board, net, hand="bob")[-1], ("mark", "bob", "ann"))
        way = way_over(board, net, hand="cy")
        self.assertTrue(shows_way_over(net, way, hand="cy"))
        self.assertIn(("mark", "bob", "ann"), way)

    def test_a_fault_that_nobody_heard_of_yet(self):
        board = read_talk("hands(*ann bob cy) begin cy { bob x ann { bob hi bob { cy ok . } | bob ! bob { cy ok . } } }")
        self.assertEqual(made(board)[0], "made")
        net = Net(made(board)[1], weak=("ann",))
        net.all_of((("fall", "ann"), ("mark", "bob", "ann"), ("say", "cy", "bob", "x")))
        for hand in ("bob", "cy"):
            way = way_over(board, net, hand=hand)
            self.assertTrue(shows_way_over(net, way, hand=hand))

    def test_by_the_fault_of_one_that_a_fallen_one_would_hear(self):
        board = read_talk("hands(*ann *bob cy dora) begin dora { cy x ann { bob hi bob { cy ok . | cy ! . } "
                          "| bob ! bob { cy gone . | cy ! . } } }")
        self.assertEqual(made(board)[0], "made")
        net = Net(made(board)[1], weak=board[1])
        net.all_of((("fall", "ann"), ("fall", "bob"), ("mark", "cy", "ann"), ("mark", "cy", "bob")))
        net.all_of(way_over(board, net, hand="cy"))
        self.assertEqual(net.view_of("cy"), (("hear", "dora", "x"),))
        self.assertEqual(way_over(board, net, hand="cy")[-1], ("mark", "cy", "bob"))
        hall = Hall(made(board)[1], room=1, weak=board[1])
        hall.all_of((("fall", "ann"), ("fall", "bob"), ("say", "dora", "cy", "x"), ("hear", "cy", "dora")))
        self.assertEqual(way_on(board, hall, hand="cy"), (("hear", "cy", "bob"),))

    def test_long_ones(self):
        dice = random.Random(5)
        for board in (ROUND, SIX, ring(40)):
            net, _ = thrown_net(board, dice, 300)
            for hand in board[0]:
                self.assertIs(shows_way_over(net, way_over(board, net, hand=hand), hand=hand), True)

    def test_refused_in_this_order(self):
        net = Net(made(GONE)[1], weak=GONE[1])
        for thing in anything():
            self.assertRaises(NoBoard, way_over, thing, net, hand=None)
        self.assertRaises(TooWide, way_over, TOO_WIDE, net, hand=None)
        self.assertRaises(NoEnds, way_over, ALONE["says"], net, hand=None)
        self.assertRaises(NoEnds, way_over, PAIR, net, hand=None)
        self.assertRaises(NoEnds, way_over, GONE, Net(made(GONE)[1]), hand=None)
        self.assertRaises(NoEnds, way_over, GONE, Net(made(GONE)[1][::-1], weak=("ann",)), hand=None)
        for hand in anything():
            for call in (lambda: way_over(GONE, net, hand=hand), lambda: shows_way_over(net, None, hand=hand)):
                with self.assertRaises(NoHand) as caught:
                    call()
                self.assertTrue(same(caught.exception.hand, hand))


class TestShows(unittest.TestCase):
    def test_of_whatever_ends(self):
        net = net_behind(HI)
        self.assertIs(shows_way_over(net, (("carry", WORD),), hand="bob"), True)
        self.assertIs(shows_way_over(net, (("again", "ann"), ("carry", WORD)), hand="bob"), True)
        # The hand's own deeds may stand in it, as long as it neither says nor hears.
        self.assertIs(shows_way_over(net, (("again", "ann"), ("carry", WORD), ("carry", ("answer", "bob", "ann", 1)), HI),
                                     hand="ann"), True)
        for thing in (
            (), (("again", "ann"),), (("carry", WORD), ("again", "ann")), (("double", WORD), ("carry", WORD)),
            (("again", "ann"), ("lose", WORD), ("carry", WORD)), (("fall", "cy"), ("carry", WORD)), [("carry", WORD)],
            (("carry", WORD), ("say", "bob", "cy", "on")), (["carry", WORD],), (("carry", list(WORD)),), (HI,),
        ):
            with self.subTest(thing=thing):
                self.assertIs(shows_way_over(net, thing, hand="bob"), False)

    def test_false_of_anything(self):
        net = net_behind(HI, ("fall", "cy"))
        ahead = told_of(net)
        for thing in anything():
            with Unchanged(self, thing):
                self.assertIs(shows_way_over(net=net, thing=thing, hand="bob"), False)
                self.assertIs(shows_way_over(net, thing, hand="cy"), thing is None)
                self.assertIs(shows_way_over(net, (thing, ("carry", WORD)), hand="bob"), False)
        self.assertEqual((told_of(net), net.counts()), (ahead, (2, 0)))

    def test_a_hall_has_none_of_a_nets_deeds(self):
        self.assertFalse(hasattr(Hall, "copies"))

    def test_something_otherwise(self):
        dice = random.Random(7)
        seen = set()
        for board in LET_ONES[:45]:
            net, deeds = thrown_net(board, dice, 25)
            for hand in board[0]:
                way = way_over(board, net, hand=hand)
                if way is None:
                    continue
                things = [way[:at] + way[at + 1:] for at in range(len(way))]
                things += [way[:at] + way[at:at + 2][::-1] + way[at + 2:] for at in range(len(way) - 1)]
                things += [way[:at] + way[at:at + 1] + way[at:] for at in range(len(way))]
                things += [(deed,) + way for deed in net.can_do()] + [way + (deed,) for deed in net.can_do()[:3]]
                things += [thing for other in ("ann", None, 1) for thing in with_one_otherwise(way[-2:], other)]
                for thing in things:
                    told = is_slow_way_over(net, deeds, thing, hand)
                    seen.add(told)
                    self.assertIs(shows_way_over(net, thing, hand=hand), told, (board, deeds, thing, hand))
        self.assertEqual(seen, {True, False})


if __name__ == "__main__":
    unittest.main()
