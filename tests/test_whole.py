"""The whole (0.1, 0.6): made ends over roads and over a net, rows that cover, watchers, ways on till all are done."""

import random
import unittest

from sayloom.covers import covers, least_row, row_of, run_of
from sayloom.ends import least_end
from sayloom.errors import LoomError, NoHand
from sayloom.halls import Hall, fault_in
from sayloom.made import made_end
from sayloom.making import is_let, made
from sayloom.net import Net
from sayloom.over import way_over
from sayloom.stands import shows_walked, walked
from sayloom.stuck import shows_stuck
from sayloom.texts import read_talk, talk_text
from sayloom.watchers import Watcher
from sayloom.ways import settled, shows_settled, ways_on
from tests.kinds import APART, GONE, LET, ROUND, STUCK
from tests.samples import PAIR, chain, made_up_boards
from tests.talks_of_editions import ALL
from tests.test_over import thrown_net
from tests.test_watchers import shuffled
from tests.test_ways import thrown_hall

TALKS = LET + [board for editions in ALL for board in editions] + [b for b in made_up_boards(80, 77) if is_let(b)]
# These go round nowhere.
ENDING = [PAIR, GONE, APART, chain(12)] + [board for editions in ALL for board in editions]
CALLS_AFTER = 25


def told_right(board, log, dice):
    """A watcher that was told a log's events, hand by hand turned about."""
    watcher = Watcher(board)
    for hand, event in shuffled(log, dice):
        watcher.tell(hand, event)
    return watcher


class TestWhole(unittest.TestCase):
    def test_each_board_has_made_ends_or_a_paper(self):
        for board in TALKS + STUCK + made_up_boards(60, 78):
            kind, told = made(board)
            if kind == "made":
                self.assertEqual(told, tuple(made_end(board, hand) for hand in board[0]))
                self.assertIn(walked(told, weak=board[1], most=10 ** 5)[0], ("sound",))
            else:
                self.assertTrue(shows_stuck(board, told))
                run = run_of(board, told)
                if told[0] != "ends":
                    self.assertIsNone(least_row(board, run))

    def test_over_roads(self):
        dice = random.Random(1)
        for board in TALKS:
            for room in (1, 2, 9, None):
                hall = thrown_hall(board, dice, room, CALLS_AFTER)
                kind, row = row_of(board, hall.log())
                self.assertEqual(kind, "row")
                self.assertTrue(covers(board, hall.log(), row))
                watcher = told_right(board, hall.log(), dice)
                self.assertTrue(watcher.is_right())
                self.assertTrue(covers(board, watcher.log(), watcher.row()))
                self.assertTrue(shows_settled(board, hall, settled(board, hall)))
                for hand, way in ways_on(board, hall).items():
                    twin = hall.twin()
                    twin.all_of(way)
                    self.assertEqual(len(twin.view_of(hand)), len(hall.view_of(hand)) + 1)

    def test_over_a_net(self):
        dice = random.Random(2)
        for board in TALKS:
            net, _ = thrown_net(board, dice, 40)
            log = net.log()
            self.assertIsNone(fault_in(made(board)[1], log, room=1, weak=board[1]))
            self.assertTrue(covers(board, log, row_of(board, log)[1]))
            self.assertTrue(told_right(board, log, dice).is_right())
            for hand in board[0]:
                way = way_over(board, net, hand=hand)
                if way is not None:
                    twin = net.twin()
                    twin.all_of(way)
                    self.assertEqual(len(twin.view_of(hand)), len(net.view_of(hand)) + 1)

    def test_on_till_all_are_done(self):
        dice = random.Random(3)
        for board in ENDING:
            hall = thrown_hall(board, dice, 1, 5)
            while ways_on(board, hall):
                hall.all_of(dice.choice(list(ways_on(board, hall).values())))
            self.check_still(board, hall)
            net, _ = thrown_net(board, dice, 9)
            ways = [way_over(board, net, hand=hand) for hand in board[0]]
            while any(ways):
                net.all_of(dice.choice([way for way in ways if way is not None]))
                ways = [way_over(board, net, hand=hand) for hand in board[0]]
            self.check_still(board, net)
            hall.under_way()
            left = {pair for pair, words in hall.under_way().items() if words != ("!",)}
            self.assertFalse(left)

    def check_still(self, board, hall):
        self.assertTrue(all(hall.is_done(hand) or hand in hall.fallen() for hand in board[0]))
        self.assertEqual(row_of(board, hall.log())[0], "row")

    def test_the_first_wrong_deed_is_told_the_same_by_all(self):
        dice = random.Random(4)
        seen = set()
        for board in TALKS:
            for other in TALKS:
                if other[0] != board[0] or other[1] != board[1]:
                    continue
                log = thrown_hall(other, dice, None, 12).log()
                kind, wrong = row_of(board, log)
                seen.add(kind)
                self.assertEqual(fault_in(made(board)[1], log, weak=board[1]), wrong if kind == "wrong" else None)
                self.assertEqual(self.first_wrong(board, log), wrong if kind == "wrong" else None)
                least = [at for at in range(len(log) + 1) if least_row(board, log[:at]) is None]
                self.assertEqual(least[0] - 1 if least else None, wrong if kind == "wrong" else None)
        self.assertEqual(seen, {"row", "wrong"})

    def first_wrong(self, board, log):
        watcher = Watcher(board)
        for at, row in enumerate(log):
            watcher.tell(row[1], ("fell",) if row[0] == "fall" else (row[0],) + row[2:])
            if watcher.wrongs():
                return at
        return None

    def test_texts_tell_the_same_talk(self):
        for board in TALKS:
            again = read_talk(talk_text(board))
            ends, others = made(board)[1], made(again)[1]
            self.assertEqual([least_end(end) for end in ends], [least_end(end) for end in others])
            # What the ones did the others could have done.
            dice = random.Random(5)
            self.assertEqual(row_of(again, thrown_hall(board, dice, 2, 12).log())[0], "row")
            self.assertTrue(shows_walked(others, walked(others, weak=again[1], most=10 ** 5), weak=again[1]))

    def test_halls_and_nets_of_other_ends_are_told_apart(self):
        for kind in (Hall, Net):
            hall = kind(made(ROUND)[1], weak=ROUND[1])
            self.assertRaises((LoomError, NoHand), hall.do, ("say", "bob", "ann", "ok"))
            self.assertEqual((len(hall), hall.counts()), (0, (1, 1)))


if __name__ == "__main__":
    unittest.main()
