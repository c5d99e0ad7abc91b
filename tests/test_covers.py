"""Rows that cover runs (7.1 to 7.5), and the interface's part sayloom/covers.py."""

import random
import unittest

from sayloom.covers import MOST_LOOKS, covers, events_of, is_run, least_row, row_of, run_of
from sayloom.ends import end_behind
from sayloom.errors import NoBoard, NoEnds, NoRow, TooWide
from sayloom.halls import Hall
from sayloom.made import made_end
from sayloom.making import is_let, made, stuck_kinds, stuck_paper
from sayloom.rows import is_row, place_behind, views_of
from sayloom.stuck import KINDS, held_back
from tests.kinds import (
    ALL_KINDS, ALONE, APART, GONE, LET, LIKE_DEEDS, LIKE_HANDS, ROUND, SIX, STUCK, TOO_WIDE, renamed,
)
from tests.samples import (
    BOARDS, FALLING, PAIR, Unchanged, all_rows, anything, chain, made_up_boards, ring, ring_row, same, star,
    with_one_listed, with_one_otherwise,
)
from tests.slow_runs import could_come, is_slow_run, slow_covers, slow_events, slow_least
from tests.test_rows import no_rows
from tests.test_stuck import PAPERS

GO = (("say", "ann", "bob", "go"), ("hear", "bob", "ann", "go"))
HI = (("say", "ann", "bob", "hi"), ("hear", "bob", "ann", "hi"))


def done_at_once(row):
    """The run of a row, each word heard at once."""
    run = []
    for sayer, hearer, word in row:
        run.append(("fall", sayer) if word == "!" else ("say", sayer, hearer, word))
        run.append(("hear", hearer, sayer, word))
    return tuple(run)


def no_runs():
    """Things that are no run over GONE's hands."""
    return anything() + [
        0, 1, GO[0], list(GO), (list(GO[0]),), (GO,), (GO[1],), GO + GO[1:], (("say", "ann", "ann", "go"),),
        (("say", "ann", "eve", "go"),), (("say", "eve", "ann", "go"),), (("say", "ann", "bob"),), (GO[0] + (1,),),
        (("say", "ann", "bob", "Go"),), (("say", "ann", "bob", "!"),), (("say", "ann", "bob", ""),),
        (("say", "ann", "bob", None),), (("say", "ann", "bob", ["go"]),), (("fall", "bob"),), (("fall", "eve"),),
        (("fall", "ann"), ("fall", "ann")), (("fall", "ann"), GO[0]), (("fall", "ann"), ("hear", "ann", "bob", "go")),
        (("fall",),), (("fall", "ann", "ann"),), (("hear", "bob", "ann", "!"),), (GO[0], ("hear", "bob", "ann", "no")),
        (GO[0], ("fall", "ann"), ("hear", "bob", "ann", "!")), (GO[0], ("hear", "bob", "ann")), (GO[0], None),
        (("fall", "ann"), ("hear", "bob", "ann", "!"), ("hear", "bob", "ann", "!")), (["fall", "ann"],),
        (("say", "ann", "bob", "abcdefghi"),), {GO[0]: GO[1]}, ("say", "ann", "bob", "go"), (("drop", "ann"),),
        (GO[0], ("say", "ann", "bob", "no"), ("hear", "bob", "ann", "no")), (GO[0], ("hear", "cy", "ann", "go")),
    ]


class TestRuns(unittest.TestCase):
    def test_runs_with_words_of_any_names(self):
        for run in (
            (), GO, GO[:1], GO * 3, (("say", "cy", "ann", "what"), ("fall", "ann"), ("say", "bob", "ann", "hi")),
            (GO[0], ("say", "ann", "bob", "abcdefgh"), GO[1], ("hear", "bob", "ann", "abcdefgh")),
            (GO[0], ("fall", "ann"), GO[1], ("hear", "bob", "ann", "!"), ("hear", "cy", "ann", "!")),
            (("fall", "ann"), ("hear", "bob", "ann", "!"), ("say", "bob", "ann", "a"), ("hear", "cy", "ann", "!")),
        ):
            with self.subTest(run=run), Unchanged(self, run):
                self.assertIs(is_run(GONE, run), True)
        self.assertIs(is_run(PAIR, (("fall", "ann"),)), False)

    def test_of_whatever_length(self):
        run = GO * 5000
        self.assertIs(is_run(GONE, run), True)
        self.assertIs(is_run(GONE, run + run[1:2]), False)
        self.assertIs(is_run(GONE, GO[:1] * 3000 + GO[1:] * 3000), True)
        self.assertIs(is_run(GONE, GO[:1] * 3000 + GO[1:] * 3001), False)

    def test_of_anything(self):
        for thing in no_runs():
            with self.subTest(thing=thing), Unchanged(self, thing):
                self.assertIs(is_run(GONE, thing), False)

    def test_as_slowly_worked_out(self):
        dice = random.Random(1)
        for board in (GONE, ROUND, APART, FALLING):
            for _ in range(60):
                run = thrown_run(dice, board, 10)
                self.assertIs(is_run(board, run), True)
                self.assertTrue(same(events_of(board, run), slow_events(board, run)))
                for thing in ("ann", "bob", "hi", "!", "say", "hear", None, True, ()):
                    for broken in with_one_otherwise(run, thing):
                        self.assertIs(is_run(board, broken), is_slow_run(board, broken))
                for broken in with_one_listed(run):
                    self.assertIs(is_run(board, broken), False)
                for at in range(len(run)):
                    self.assertIs(is_run(board, run[:at] + run[at + 1:]), is_slow_run(board, run[:at] + run[at + 1:]))

    def test_logs_of_halls_are_runs(self):
        dice = random.Random(2)
        for board in (GONE, ROUND, APART, SIX):
            for room in (1, None):
                hall = Hall(made(board)[1], room=room, weak=board[1])
                for _ in range(30):
                    if hall.can_do():
                        hall.do(dice.choice(hall.can_do()))
                    self.assertIs(is_run(board, hall.log()), True)
                    self.assertEqual(events_of(board, hall.log()), {hand: hall.view_of(hand) for hand in board[0]})

    def test_events_of_all_hands(self):
        run = (GO[0], ("fall", "ann"), GO[1], ("hear", "bob", "ann", "!"), ("say", "bob", "cy", "on"))
        told = events_of(GONE, run)
        self.assertTrue(same(told, {
            "ann": (("say", "bob", "go"),),
            "bob": (("hear", "ann", "go"), ("hear", "ann", "!"), ("say", "cy", "on")), "cy": (),
        }))
        self.assertEqual(list(events_of(ROUND, ())), ["bob", "ann"])
        told.clear()
        self.assertEqual(events_of(board=GONE, run=run)["cy"], ())

    def test_no_board_then_no_row(self):
        for thing in anything() + [()]:
            for asked in (is_run, events_of, row_of, least_row):
                with self.subTest(thing=thing), Unchanged(self, thing):
                    self.assertRaises(NoBoard, asked, thing, None)
            self.assertRaises(NoBoard, covers, thing, None, None)
            self.assertRaises(NoBoard, run_of, thing, None)
        for thing in no_runs():
            with self.subTest(thing=thing), Unchanged(self, thing):
                for asked in (events_of, row_of, least_row):
                    self.assertRaises(NoRow, asked, GONE, thing)
                self.assertRaises(NoRow, covers, GONE, thing, None)
                self.assertRaises(NoRow, covers, GONE, thing, ())
                self.assertRaises(NoRow, least_row, GONE, thing, most=1)
        for thing in no_rows():
            with self.subTest(thing=thing), Unchanged(self, thing):
                self.assertRaises(NoRow, covers, FALLING, (), thing)


def thrown_run(dice, board, most):
    """A run that dice give, often of words of the board."""
    words = sorted({branch[1] for place in board[2] if place for branch in place[1]} | {"hi", "!"})
    every = [("say", one, two, word) for one in board[0] for two in board[0] for word in words]
    every += [("hear", one, two, word) for one in board[0] for two in board[0] for word in words]
    run = ()
    for _ in range(dice.randint(1, most)):
        falls = [("fall", hand) for hand in board[1]] if dice.random() < 0.1 else []
        can = [deed for deed in every + falls if could_come(board, run, deed)]
        hears = [deed for deed in can if deed[0] == "hear"]
        if can:
            run += (dice.choice(hears if hears and dice.random() < 0.5 else can),)
    return run


def likely_run(dice, board, ends, most):
    """A run that dice give, deeds of made ends among which now and then another one stands."""
    run = ()
    words = ("hi", "no", "yes", "ok", "go")
    every = [("say", one, two, word) for one in board[0] for two in board[0] for word in words]
    for _ in range(dice.randint(1, most)):
        events = slow_events(board, run)
        can = []
        for end in ends:
            state = end_behind(end, events[end[0]])
            if state is not None:
                can += [(kind, end[0], other, word) for kind, other, word, _ in end[1][state]]
        falls = [("fall", hand) for hand in board[1]] if dice.random() < 0.15 else []
        can = [deed for deed in can + falls if could_come(board, run, deed)]
        if not can or dice.random() < 0.04:
            can = [deed for deed in every if could_come(board, run, deed)]
        if can:
            run += (dice.choice(can),)
    return run


class TestCovers(unittest.TestCase):
    def test_events_are_a_beginning_of_the_view(self):
        row = (("ann", "bob", "go"), ("bob", "cy", "go"))
        for run in ((), GO[:1], GO, done_at_once(row), done_at_once(row)[:3]):
            self.assertIs(covers(GONE, run, row), True)
        self.assertIs(covers(GONE, GO[:1], row[:1]), True)
        self.assertIs(covers(GONE, GO[:1], ()), False)
        self.assertIs(covers(GONE, done_at_once(row), row[:1]), False)
        self.assertIs(covers(GONE, (("say", "bob", "cy", "go"),), row), False)
        self.assertIs(covers(GONE, (("say", "ann", "bob", "no"),), row), False)

    def test_the_fallen_say_no_word_more(self):
        fell = (("fall", "ann"),)
        self.assertIs(covers(GONE, fell, ()), True)
        self.assertIs(covers(GONE, fell, (("ann", "bob", "go"),)), False)
        self.assertIs(covers(GONE, fell, (("ann", "bob", "!"), ("bob", "cy", "gone"))), True)
        # Who said all may have fallen unnoticed; who fell may have heard more in the row.
        self.assertIs(covers(GONE, GO[:1] + fell, (("ann", "bob", "go"), ("bob", "cy", "go"))), True)
        self.assertIs(covers(ROUND, (("fall", "bob"),), (("ann", "bob", "stop"),)), True)
        self.assertIs(covers(ROUND, (("fall", "bob"),), (("ann", "bob", "hi"), ("bob", "ann", "!"))), True)
        self.assertIs(covers(ROUND, (("fall", "bob"),), (("ann", "bob", "hi"), ("bob", "ann", "ok"))), False)

    def test_each_fault_is_of_one_that_fell(self):
        row = (("ann", "bob", "!"),)
        self.assertIs(covers(GONE, (), row), False)
        self.assertIs(covers(GONE, (("fall", "ann"),), row), True)
        self.assertIs(covers(GONE, (("fall", "ann"), ("hear", "bob", "ann", "!")), row), True)
        self.assertIs(covers(GONE, (("fall", "ann"), ("hear", "cy", "ann", "!")), row), False)
        self.assertIs(covers(GONE, GO[:1] + (("fall", "ann"),), row), False)

    def test_as_slowly_worked_out(self):
        dice = random.Random(3)
        told = {True: 0, False: 0}
        for board in [GONE, ROUND, APART] + made_up_boards(20, 4):
            rows = [row for row, _ in all_rows(board, 4)][:60]
            ends = [made_end(board, hand) for hand in board[0]]
            for _ in range(12):
                run = likely_run(dice, board, ends, 6)
                for row in rows:
                    with Unchanged(self, run, row):
                        one = covers(board, run, row)
                    self.assertIs(one, slow_covers(board, run, row), (board, run, row))
                    told[one] += 1
        self.assertGreater(min(told.values()), 500)

    def test_each_row_done_at_once_is_covered_by_itself(self):
        for board in BOARDS + STUCK:
            for row, _ in all_rows(board, 5)[:60]:
                run = done_at_once(row)
                self.assertIs(is_run(board, run), True)
                self.assertIs(covers(board, run, row), True)
                self.assertEqual(len(least_row(board, run, most=10000)), len(row))

    def test_by_name(self):
        self.assertIs(covers(row=(), run=(), board=GONE), True)
        self.assertIs(is_run(thing=GO, board=GONE), True)


class TestRowOf(unittest.TestCase):
    def told(self, board, run):
        """What row_of tells, looked at."""
        with Unchanged(self, board, run):
            kind, told = row_of(board, run)
        if kind == "row":
            self.assertIs(covers(board, run, told), True)
            self.assertIs(slow_covers(board, run, told), True)
            return None
        self.assertEqual(kind, "wrong")
        self.assertIs(type(told), int)
        return told

    def test_ordinary_runs(self):
        self.assertTrue(same(row_of(GONE, GO), ("row", (("ann", "bob", "go"),))))
        self.assertTrue(same(row_of(GONE, ()), ("row", ())))
        fell = (("fall", "ann"), ("hear", "bob", "ann", "!"), ("say", "bob", "cy", "gone"))
        self.assertEqual(row_of(GONE, fell), ("row", (("ann", "bob", "!"), ("bob", "cy", "gone"))))
        self.assertEqual(row_of(APART, (("say", "cy", "dora", "no"),))[1][1], ("cy", "dora", "no"))
        self.assertIsNone(self.told(GONE, fell + (("hear", "cy", "bob", "gone"),)))
        self.assertIsNone(self.told(ROUND, HI * 1 + (("fall", "bob"), ("hear", "ann", "bob", "!"))))
        self.assertIsNone(self.told(ROUND, HI + (("fall", "bob"), ("fall", "ann"))))

    def test_the_first_deed_with_which_none_covers(self):
        self.assertEqual(self.told(GONE, (("say", "cy", "ann", "hi"),)), 0)
        self.assertEqual(self.told(GONE, GO + GO), 2)
        self.assertEqual(self.told(GONE, GO[:1] + (("say", "cy", "bob", "a"),) + GO[:1]), 1)
        self.assertEqual(self.told(GONE, (("fall", "ann"), ("hear", "bob", "ann", "!"), ("say", "bob", "cy", "go"))), 2)
        self.assertEqual(self.told(GONE, (("fall", "ann"), ("hear", "cy", "ann", "!"))), 1)
        self.assertEqual(self.told(SIX, done_at_once((("ann", "bob", "hi"), ("bob", "cy", "hi"))) + HI[:1]), 4)

    def test_long_runs(self):
        self.assertIsNone(self.told(ring(40), done_at_once(ring_row(1000))))
        self.assertEqual(self.told(ring(40), done_at_once(ring_row(1000)) + HI + HI[:1]), 2002)
        self.assertIsNone(self.told(ROUND, done_at_once((("ann", "bob", "hi"), ("bob", "ann", "ok")) * 400)))

    def test_what_was_not_heard_yet_may_be_covered_too(self):
        board = SIX
        says = tuple(("say", one, two, "hi") for one, two in zip(board[0], board[0][1:] + board[0][:1]))
        self.assertIsNone(self.told(board, says[:1]))
        self.assertEqual(self.told(board, says[:2]), 1)
        hall = Hall(made(APART)[1])
        for deed in (("say", "cy", "dora", "hi"), ("hear", "dora", "cy"), ("say", "ann", "bob", "no")):
            hall.do(deed)
            self.assertIsNone(self.told(APART, hall.log()))

    def test_runs_of_made_ends_are_all_covered(self):
        dice = random.Random(5)
        boards = [board for board in made_up_boards(150, 6) if is_let(board)][:60] + [GONE, ROUND, APART, SIX]
        for board in boards + [renamed(board, names) for board in boards[-10:] for names in (LIKE_DEEDS, LIKE_HANDS)]:
            for room in (1, 2, None):
                hall = Hall(made(board)[1], room=room, weak=board[1])
                for _ in range(20):
                    deeds = [deed for deed in hall.can_do() if deed[0] != "fall" or dice.random() < 0.15]
                    if deeds:
                        hall.do(dice.choice(deeds))
                self.assertIsNone(self.told(board, hall.log()))

    def test_any_runs_as_slowly_worked_out(self):
        dice = random.Random(7)
        seen = {"row": 0, "wrong": 0}
        for board in [board for board in made_up_boards(60, 8) if is_let(board)][:25] + [GONE, ROUND, APART]:
            ends = made(board)[1]
            for _ in range(10):
                run = likely_run(dice, board, ends, 8)
                number = self.told(board, run)
                covered = [slow_least(board, run[:many])[0] is not None for many in range(len(run) + 1)]
                self.assertEqual(number, None if covered[-1] else covered.index(False) - 1, (board, run))
                seen["row" if number is None else "wrong"] += 1
                for many in range(len(run) + 1):
                    done = all(end_behind(end, slow_events(board, run[:many])[end[0]]) is not None for end in ends)
                    self.assertEqual(done, covered[many])
        self.assertGreater(min(seen.values()), 40)

    def test_no_row_then_too_wide_then_no_ends(self):
        for board in STUCK:
            self.assertRaises(NoEnds, row_of, board, ())
            self.assertRaises(NoRow, row_of, board, None)
        self.assertRaises(TooWide, row_of, TOO_WIDE, ())
        self.assertRaises(NoRow, row_of, TOO_WIDE, (None,))
        begin = (TOO_WIDE[2][0][0], TOO_WIDE[2][0][1] + (("dora", "hi", 1),))
        self.assertRaises(TooWide, row_of, (("ann", "bob", "cy", "dora"), (), (begin,) + TOO_WIDE[2][1:]), ())

    def test_by_name_and_alike(self):
        self.assertEqual(row_of(run=GO, board=GONE), row_of(GONE, GO))


class TestLeastRow(unittest.TestCase):
    def test_shortest_rows(self):
        self.assertTrue(same(least_row(GONE, ()), ()))
        self.assertTrue(same(least_row(GONE, GO), (("ann", "bob", "go"),)))
        self.assertIsNone(least_row(GONE, GO + GO))
        late = (("say", "cy", "dora", "no"),)
        self.assertEqual(len(least_row(APART, late)), 2)
        # Of stuck boards too.
        self.assertEqual(least_row(FALLING, (("fall", "ann"), ("hear", "bob", "ann", "!"))), (("ann", "bob", "!"),))
        # Who fell unnoticed needn't fall in the row.
        self.assertEqual(least_row(GONE, (("fall", "ann"),)), ())

    def test_as_slowly_worked_out(self):
        dice = random.Random(9)
        found = 0
        for board in [GONE, ROUND, APART, FALLING] + STUCK + made_up_boards(30, 10):
            ends = [made_end(board, hand) for hand in board[0]]
            for _ in range(8):
                run = likely_run(dice, board, ends, 7)
                slow, looks = slow_least(board, run)
                with Unchanged(self, board, run):
                    told = least_row(board, run, most=looks)
                self.assertEqual(told is None, slow is None)
                if told is not None:
                    self.assertIs(covers(board, run, told), True)
                    self.assertEqual(len(told), len(slow))
                    found += 1
                if looks > 1:
                    self.assertRaises(TooWide, least_row, board, run, most=looks - 1)
                self.assertTrue(same(least_row(board, run, most=looks + 1), told))
        self.assertGreater(found, 100)

    def test_none_shorter_covers(self):
        dice = random.Random(12)
        for board in [GONE, ROUND, APART] + made_up_boards(10, 13):
            ends = [made_end(board, hand) for hand in board[0]]
            rows = [row for row, _ in all_rows(board, 4)]
            for _ in range(10):
                run = likely_run(dice, board, ends, 5)
                told = least_row(board, run)
                covering = [len(row) for row in rows if covers(board, run, row)]
                if covering:
                    self.assertEqual(len(told), min(covering))
                else:
                    self.assertTrue(told is None or len(told) > 4)

    def test_as_many_looks_as_are_come_to(self):
        self.assertEqual(MOST_LOOKS, 4000)
        # The empty row covers at once; all looks are counted all the same.
        for board, looks in ((chain(1), 1), (chain(40), 40), (ring(40), 40), (star(8), 2), (GONE, 3), (PAIR, 2)):
            self.assertEqual(slow_least(board, ())[1], looks)
            self.assertEqual(least_row(board, (), most=looks), ())
            if looks > 1:
                self.assertRaises(TooWide, least_row, board, (), most=looks - 1)
        # And where none is found.
        self.assertIsNone(least_row(PAIR, HI + HI, most=2))
        self.assertRaises(TooWide, least_row, PAIR, HI + HI, most=1)
        long = done_at_once(ring_row(3960))
        self.assertEqual(len(least_row(ring(40), long)), 3960)
        self.assertRaises(TooWide, least_row, ring(40), long + HI)
        self.assertEqual(len(least_row(ring(40), long + HI, most=4001)), 3961)

    def test_by_name(self):
        self.assertEqual(least_row(most=9, run=GO, board=GONE), least_row(GONE, GO))
        self.assertRaises(TypeError, least_row, GONE, GO, 9)


class TestRunOf(unittest.TestCase):
    def test_a_run_of_each_kind(self):
        told = {
            "ends": done_at_once(PAPERS["ends"][3]),
            "fault": (("say", "cy", "bob", "no"), ("fall", "ann"), ("hear", "bob", "ann", "!")),
            "mixed": done_at_once((("ann", "cy", "no"),)) + (("say", "bob", "ann", "yes"), ("say", "ann", "cy", "no")),
            "race": (("say", "dora", "bob", "no"),) + done_at_once((("dora", "cy", "yes"),))
            + (("say", "cy", "bob", "no"), ("hear", "bob", "cy", "no")),
            "says": done_at_once((("bob", "ann", "no"),)) + (("say", "cy", "dora", "yes"),),
        }
        for kind, paper in PAPERS.items():
            with self.subTest(kind=kind), Unchanged(self, paper):
                self.assertTrue(same(run_of(ALONE[kind], paper), told[kind]))
        self.assertEqual(run_of(paper=PAPERS["says"], board=ALONE["says"]), told["says"])

    def test_a_last_fault_of_other_is_a_fall_that_is_not_heard(self):
        board = (("ann", "bob", "cy"), ("bob",), (
            ("cy", (("bob", "hi", 1), ("bob", "no", 2))),
            ("bob", (("ann", "!", 3), ("ann", "no", 3))),
            ("ann", (("cy", "hi", 3),)),
            None,
        ))
        row, other = (("cy", "bob", "no"), ("ann", "cy", "hi")), (("cy", "bob", "hi"), ("bob", "ann", "!"))
        told = done_at_once(other[:1]) + (("fall", "bob"), ("say", "ann", "cy", "hi"))
        self.assertEqual(run_of(board, ("mixed", "ann", row, other)), told)

    def test_who_fell_ahead_falls_once(self):
        board = (("ann", "bob", "cy", "dora"), ("bob",), (
            ("dora", (("cy", "hi", 1),)),
            ("bob", (("ann", "hi", 4), ("cy", "!", 2), ("cy", "hi", 3))),
            ("cy", (("ann", "no", 6),)),
            ("cy", (("dora", "hi", 5),)),
            ("bob", (("cy", "!", 6), ("cy", "hi", 6))),
            ("bob", (("ann", "!", 6), ("ann", "hi", 6))),
            None,
        ))
        begin = (("dora", "cy", "hi"),)
        row = begin + (("bob", "cy", "hi"), ("cy", "dora", "hi"), ("bob", "ann", "!"))
        other = begin + (("bob", "cy", "!"), ("cy", "ann", "no"))
        told = done_at_once(begin) + (
            ("fall", "bob"), ("hear", "cy", "bob", "!"), ("say", "cy", "ann", "no"), ("hear", "ann", "bob", "!"),
        )
        self.assertEqual(run_of(board, ("fault", "ann", row, other)), told)

    def test_what_those_held_back_would_do_is_not_done(self):
        board = (("ann", "bob", "cy", "dora", "ed"), ("ann", "ed"), (
            ("dora", (("bob", "no", 1), ("cy", "yes", 6))),
            ("bob", (("ann", "on", 2),)),
            ("ed", (("dora", "!", 3), ("dora", "hi", 3))),
            ("dora", (("ann", "eh", 4),)),
            ("ann", (("cy", "!", 5), ("cy", "hi", 7))),
            ("dora", (("cy", "well", 6),)),
            ("cy", (("bob", "no", 7),)),
            None,
        ))
        row = (("dora", "cy", "yes"), ("cy", "bob", "no"))
        other = (("dora", "bob", "no"), ("bob", "ann", "on"), ("ed", "dora", "!"), ("dora", "ann", "eh"),
                 ("ann", "cy", "!"), ("dora", "cy", "well"), ("cy", "bob", "no"))
        told = (
            ("say", "dora", "bob", "no"), ("fall", "ed"), ("hear", "dora", "ed", "!"), ("say", "dora", "ann", "eh"),
            ("fall", "ann"), ("hear", "cy", "ann", "!"), ("say", "dora", "cy", "well"), ("hear", "cy", "dora", "well"),
            ("say", "cy", "bob", "no"), ("hear", "bob", "cy", "no"),
        )
        self.assertEqual(held_back(board, other, "bob"), (("ann", "bob"), ("bob",)))
        self.assertTrue(same(run_of(board, ("race", "bob", row, other)), told))
        self.assertIs(is_run(board, told), True)

    def test_no_hand_can_tell_and_no_row_covers(self):
        seen = {kind: 0 for kind in KINDS}
        for board in STUCK + made_up_boards(160, 14) + [renamed(board, LIKE_DEEDS) for board in STUCK]:
            for hand in board[0]:
                for kind in stuck_kinds(board, hand):
                    self.looked_at(board, stuck_paper(board, hand, kinds=(kind,)))
                    seen[kind] += 1
        self.assertGreater(min(seen.values()), 3)

    def looked_at(self, board, paper):
        kind, hand, row, other = paper
        run = run_of(board, paper)
        self.assertIs(is_slow_run(board, run), True)
        events, views = events_of(board, run), views_of(board, other)
        for one in board[0]:
            if one != hand:
                self.assertEqual(events[one], views[one][:len(events[one])])
        mine = views_of(board, row)[hand]
        self.assertEqual(events[hand], mine[:-1] if kind == "ends" else mine)
        if kind != "ends":
            self.assertIsNone(least_row(board, run, most=10 ** 6))
            return
        self.assertEqual(least_row(board, run, most=10 ** 6), other)
        for more, _ in all_rows((board[0], board[1], board[2]), len(other) + 2):
            if len(other) + 2 < 6 and more[len(other):] and covers(board, run, more):
                self.assertEqual(more[:len(other)], other)
                if not [saying for saying in more[len(other):] if saying[2] == "!"]:
                    self.assertEqual(views_of(board, more)[hand], events[hand])

    def test_no_row_of_what_is_no_paper(self):
        for kind, board in ALONE.items():
            for thing in anything() + [(), PAPERS[kind][:3], list(PAPERS[kind]), PAPERS[kind] + ((),),
                                       ("none",) + PAPERS[kind][1:], PAPERS[kind][:2] + ((), ())]:
                with self.subTest(thing=thing), Unchanged(self, thing):
                    self.assertRaises(NoRow, run_of, board, thing)
            for other, paper in PAPERS.items():
                if other != kind:
                    self.assertRaises(NoRow, run_of, board, paper)
        for board in LET[:5]:
            self.assertRaises(NoRow, run_of, board, PAPERS["says"])

    def test_the_same_asked_again_is_told_alike(self):
        for board in (ALL_KINDS, FALLING):
            paper = made(board)[1]
            with Unchanged(self, board, paper):
                self.assertTrue(same(run_of(board, paper), run_of(board, paper)))
            self.assertIs(is_row(board, paper[2]), True)
            self.assertIsNotNone(place_behind(board, paper[3]))


if __name__ == "__main__":
    unittest.main()
