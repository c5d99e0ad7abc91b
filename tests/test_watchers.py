"""Watchers (11.1 to 11.3), and the interface's part sayloom/watchers.py."""

import random
import unittest

from sayloom.covers import covers, row_of
from sayloom.errors import NoBoard, NoDeed, NoEnds, NoHand, TooWide
from sayloom.halls import hall_behind
from sayloom.making import is_let, made
from sayloom.watchers import Watcher
from tests.kinds import ALONE, APART, GONE, LET, LIKE_DEEDS, ROUND, SIX, TOO_WIDE, renamed
from tests.samples import PAIR, Unchanged, anything, chain, made_up_boards, same, with_one_listed, with_one_otherwise
from tests.slow_looks import is_slow_event
from tests.slow_watchers import SlowWatcher
from tests.test_over import thrown_net
from tests.test_ways import thrown_hall

BOARDS = LET + [renamed(GONE, LIKE_DEEDS)] + [board for board in made_up_boards(60, 41) if is_let(board)]
GO = ("say", "bob", "go")
HEARS = ("hear", "ann", "go")
FELL = ("fell",)


def watcher_of(board, *reports):
    watcher = Watcher(board)
    for hand, event in reports:
        watcher.tell(hand, event)
    return watcher


def told_of(watcher, hands):
    return (
        [(watcher.told(hand), watcher.next_of(hand)) for hand in hands], list(watcher.wrongs().items()),
        list(watcher.waits().items()), watcher.log(), watcher.row(), watcher.is_right(), len(watcher), str(watcher),
    )


def reports_of(log):
    """What each hand tells of a log: the dict from hands to rows of reports."""
    found = {}
    for row in log:
        found.setdefault(row[1], []).append(FELL if row[0] == "fall" else (row[0],) + row[2:])
    return found


def shuffled(log, dice):
    """The reports of a log, those of each hand in order, turned about otherwise."""
    left = reports_of(log)
    while left:
        hand = dice.choice(sorted(left))
        yield hand, left[hand].pop(0)
        if not left[hand]:
            del left[hand]


class TestWatchers(unittest.TestCase):
    def test_right_ones_are_laid(self):
        with Unchanged(self, GONE):
            watcher = Watcher(board=GONE)
        self.assertEqual(told_of(watcher, GONE[0]), (
            [((), (GO,)), ((), (("hear", "ann", "!"), ("hear", "ann", "go"))),
             ((), (("hear", "bob", "go"), ("hear", "bob", "gone")))], [], [], (), (), True, 0, "0 told, 0 wait, 0 wrong",
        ))
        self.assertEqual(watcher.tell("ann", GO), (("say", "ann", "bob", "go"),))
        self.assertEqual(watcher.tell(hand="bob", event=HEARS), (("hear", "bob", "ann", "go"),))
        self.assertEqual(watcher.told("bob"), (HEARS,))
        self.assertEqual(watcher.next_of(hand="bob"), (("say", "cy", "go"),))
        self.assertEqual(watcher.row(), (("ann", "bob", "go"),))
        self.assertEqual((len(watcher), str(watcher), watcher.is_right()), (2, "2 told, 0 wait, 0 wrong", True))

    def test_hearings_wait_for_what_they_hear(self):
        watcher = Watcher(GONE)
        self.assertEqual(watcher.tell("cy", ("hear", "bob", "go")), ())
        self.assertEqual(watcher.tell("bob", HEARS), ())
        self.assertEqual(watcher.tell("bob", ("say", "cy", "go")), ())
        self.assertEqual(watcher.waits(), {"bob": 0, "cy": 0})
        self.assertEqual(list(watcher.waits()), ["bob", "cy"])
        self.assertEqual((str(watcher), watcher.is_right(), watcher.log()), ("3 told, 3 wait, 0 wrong", False, ()))
        self.assertEqual(watcher.tell("ann", GO), (
            ("say", "ann", "bob", "go"), ("hear", "bob", "ann", "go"), ("say", "bob", "cy", "go"), ("hear", "cy", "bob", "go"),
        ))
        self.assertEqual((watcher.waits(), watcher.is_right()), ({}, True))

    def test_falls(self):
        watcher = Watcher(GONE)
        self.assertEqual(watcher.tell("bob", ("hear", "ann", "!")), ())
        self.assertEqual(watcher.tell("ann", FELL), (("fall", "ann"), ("hear", "bob", "ann", "!")))
        self.assertEqual((watcher.next_of("ann"), watcher.told("ann")), ((), (FELL,)))
        self.assertRaises(NoDeed, watcher.tell, "ann", GO)
        self.assertRaises(NoDeed, watcher.tell, "ann", FELL)
        # Of a hand that isn't weak it is wrong, and nothing more is told of it.
        self.assertEqual(watcher.tell("cy", FELL), ())
        self.assertEqual((watcher.wrongs(), watcher.told("cy"), watcher.next_of("cy")), ({"cy": 0}, (FELL,), ()))
        self.assertRaises(NoDeed, watcher.tell, "cy", ("hear", "bob", "gone"))
        self.assertEqual(str(watcher), "3 told, 0 wait, 1 wrong")
        # A done hand may fall, one amid its words too.
        self.assertEqual(watcher_of(GONE, ("ann", GO), ("ann", FELL)).log(), (("say", "ann", "bob", "go"), ("fall", "ann")))

    def test_a_fault_is_heard_behind_all_words(self):
        watcher = watcher_of(GONE, ("ann", GO), ("ann", FELL))
        self.assertEqual(watcher.tell("bob", ("hear", "ann", "!")), ())
        # It is right at bob, but waits: he never heard the word.
        self.assertEqual((watcher.wrongs(), watcher.waits(), watcher.is_right()), ({}, {"bob": 0}, False))

    def test_wrong_at_the_begin_amid_behind_a_fall(self):
        for reports, wrongs in (
            ((("ann", HEARS),), {"ann": 0}), ((("ann", ("say", "ann", "go")),), {"ann": 0}),
            ((("ann", ("say", "eve", "go")),), {"ann": 0}), ((("ann", GO), ("ann", GO)), {"ann": 1}),
            ((("bob", HEARS), ("bob", ("say", "cy", "gone"))), {"bob": 1}),
            ((("cy", FELL), ("ann", ("say", "cy", "hi"))), {"ann": 0, "cy": 0}),
        ):
            watcher = watcher_of(GONE, *reports)
            self.assertEqual((watcher.wrongs(), list(watcher.wrongs())), (wrongs, sorted(wrongs)))
            for hand in wrongs:
                self.assertEqual(watcher.next_of(hand), ())
                self.assertEqual(watcher.told(hand)[-1], [event for one, event in reports if one == hand][-1])
                self.assertRaises(NoDeed, watcher.tell, hand, FELL)
            self.assertFalse(watcher.is_right())

    def test_reports_that_wait_for_one_another_for_ever(self):
        board = (("ann", "bob", "cy"), (), (
            ("cy", (("ann", "one", 1), ("bob", "two", 2))),
            ("ann", (("bob", "hi", 3),)), ("bob", (("ann", "hi", 4),)), ("bob", (("cy", "ok", 5),)),
            ("ann", (("cy", "ok", 5),)), None,
        ))
        watcher = watcher_of(board, ("ann", ("hear", "bob", "hi")), ("bob", ("hear", "ann", "hi")))
        for hand in ("ann", "bob"):
            self.assertEqual(watcher.tell(hand, ("say", "cy", "ok")), ())
        self.assertEqual((watcher.wrongs(), watcher.waits(), watcher.log()), ({}, {"ann": 0, "bob": 0}, ()))

    def test_as_slow_ones(self):
        dice = random.Random(2)
        for board in BOARDS:
            for _ in range(2):
                log = thrown_hall(board, dice, None, 16).log()
                watcher, slow = Watcher(board), SlowWatcher(board, made(board)[1])
                for hand, event in shuffled(log, dice):
                    self.tell_both(watcher, slow, hand, self.other(event, board, dice))
                self.look_over(watcher, slow)

    def other(self, event, board, dice):
        """The event, or now and then another one."""
        if dice.random() < 0.85:
            return event
        hand = dice.choice(board[0] + ("eve",))
        return dice.choice([FELL, ("say", hand, "hi"), ("hear", hand, "!"), ("hear", hand, "hi")])

    def tell_both(self, watcher, slow, hand, event):
        if slow.is_closed(hand):
            self.assertRaises(NoDeed, watcher.tell, hand, event)
            return
        ahead = slow.log()
        slow.reports.append((hand, event))
        self.assertTrue(same(watcher.tell(hand, event), slow.log()[len(ahead):]))

    def look_over(self, watcher, slow):
        self.assertEqual([watcher.told(hand) for hand in slow.hands], [slow.of(hand) for hand in slow.hands])
        self.assertEqual([watcher.next_of(hand) for hand in slow.hands], [slow.next_of(hand) for hand in slow.hands])
        self.assertTrue(same(watcher.wrongs(), slow.wrongs()))
        self.assertTrue(same(watcher.waits(), slow.waits()))
        self.assertEqual((watcher.log(), len(watcher)), (slow.log(), len(slow.reports)))
        waiting = len(slow.reports) - len(slow.log()) - len(slow.wrongs())
        self.assertEqual(str(watcher), f"{len(slow.reports)} told, {waiting} wait, {len(slow.wrongs())} wrong")
        self.assertIs(watcher.is_right(), not slow.wrongs() and not waiting)


class TestRuns(unittest.TestCase):
    def test_what_is_laid_is_a_run_of_the_made_ends(self):
        dice = random.Random(4)
        for board in BOARDS:
            log = thrown_hall(board, dice, 2, 20).log()
            watcher = Watcher(board)
            for hand, event in shuffled(log, dice):
                watcher.tell(hand, event)
                laid = watcher.log()
                hall_behind(made(board)[1], laid, weak=board[1])
                self.assertTrue(covers(board, laid, watcher.row()))
            self.assertTrue(watcher.is_right())
            self.assertEqual(sorted(watcher.log()), sorted(log))

    def test_in_whatever_order_the_same_ones_are_wrong_laid_wait(self):
        dice = random.Random(5)
        for board in BOARDS[:30]:
            log = thrown_hall(board, dice, None, 14).log() + (("hear", board[0][0], board[0][1], "odd"),)
            one, two = Watcher(board), Watcher(board)
            for watcher in (one, two):
                for hand, event in shuffled(log, dice):
                    try:
                        watcher.tell(hand, event)
                    except NoDeed:
                        pass
            self.assertEqual(one, two)
            self.assertEqual((one.wrongs(), one.waits(), sorted(one.log())), (two.wrongs(), two.waits(), sorted(two.log())))

    def test_of_a_run_of_other_ends_just_where_some_row_covers(self):
        dice = random.Random(6)
        seen = set()
        for board in BOARDS:
            for other in BOARDS:
                if other[0] != board[0] or other[1] != board[1]:
                    continue
                log = thrown_hall(other, dice, None, 10).log()
                kind, told = row_of(board, log)
                seen.add(kind)
                watcher = Watcher(board)
                wrong = None
                for at, row in enumerate(log):
                    event = FELL if row[0] == "fall" else (row[0],) + row[2:]
                    if wrong is None:
                        watcher.tell(row[1], event)
                        wrong = at if watcher.wrongs() else None
                self.assertEqual(("wrong", wrong) if wrong is not None else "row", (kind, told) if kind == "wrong" else kind)
                if kind == "row":
                    self.assertTrue(watcher.is_right())
        self.assertEqual(seen, {"row", "wrong"})

    def test_a_nets_log(self):
        dice = random.Random(7)
        for board in [PAIR, GONE, APART, ROUND, SIX]:
            for _ in range(10):
                net, _ = thrown_net(board, dice, 60)
                watcher = Watcher(board)
                for hand, event in shuffled(net.log(), dice):
                    watcher.tell(hand, event)
                self.assertTrue(watcher.is_right())
                self.assertTrue(covers(board, net.log(), watcher.row()))


class TestRefusals(unittest.TestCase):
    def test_new_ones(self):
        for thing in anything():
            self.assertRaises(NoBoard, Watcher, thing)
        self.assertRaises(TooWide, Watcher, TOO_WIDE)
        for board in ALONE.values():
            self.assertRaises(NoEnds, Watcher, board)

    def test_no_hand_ahead_of_no_report(self):
        watcher = Watcher(GONE)
        for hand in anything():
            for call in (lambda: watcher.tell(hand, None), lambda: watcher.told(hand), lambda: watcher.next_of(hand)):
                with self.assertRaises(NoHand) as caught:
                    call()
                self.assertTrue(same(caught.exception.hand, hand))

    def test_no_reports(self):
        watcher = watcher_of(GONE, ("ann", GO))
        ahead = told_of(watcher, GONE[0])
        things = anything() + [["fell"], ("fell", "ann"), "fell", ("Fell",), ("fall",), (("fell",),), ("say", "bob", "!")]
        things += list(with_one_listed(HEARS))
        for other in anything():
            things += [thing for thing in with_one_otherwise(HEARS, other) if not is_slow_event(thing)]
        for thing in things:
            with self.subTest(thing=thing), Unchanged(self, thing):
                self.assertRaises(NoDeed, watcher.tell, "bob", thing)
        self.assertEqual(told_of(watcher, GONE[0]), ahead)


class TestAlike(unittest.TestCase):
    def test_of_the_same_board_told_the_same(self):
        one = watcher_of(GONE, ("ann", GO), ("bob", HEARS))
        self.assertTrue(one == watcher_of(GONE, ("bob", HEARS), ("ann", GO)))
        for other in (Watcher(GONE), watcher_of(GONE, ("ann", GO)), watcher_of(GONE, ("ann", GO), ("bob", FELL)),
                      watcher_of(GONE, ("ann", GO), ("bob", HEARS), ("cy", FELL)), Watcher(PAIR), None, GONE, "ann"):
            self.assertTrue(one != other)
            self.assertFalse(one == other)
        self.assertNotEqual(Watcher(chain(2)), Watcher(chain(3)))

    def test_what_was_told_may_be_changed(self):
        watcher = watcher_of(GONE, ("bob", HEARS), ("cy", FELL))
        ahead = told_of(watcher, GONE[0])
        watcher.wrongs().clear()
        watcher.waits().clear()
        self.assertEqual(told_of(watcher, GONE[0]), ahead)
        self.assertIsInstance(watcher.log(), tuple)


if __name__ == "__main__":
    unittest.main()
