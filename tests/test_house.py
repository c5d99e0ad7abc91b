"""Houses (13.1 to 13.4), and the interface's part sayloom/house.py."""

import random
import unittest

from sayloom.errors import Empty, Full, LoomError, NoBoard, NoDeed, NoEnds, NoHand, NoRoom, TooWide
from sayloom.house import House
from sayloom.making import made
from sayloom.stands import deeds_at, shows_run, stand_behind, stand_of, walked
from sayloom.halls import hall_behind
from sayloom.texts import read_talk
from sayloom.ways import shows_way
from tests.kinds import ALONE, APART, GONE, ROUND, SIX, TOO_WIDE
from tests.samples import PAIR, Unchanged, anything, chain, same
from tests.slow_houses import SlowHouse, is_refused
from tests.talks_of_editions import ALL, ASKING_FOUR, ASKING_TWO, COMING, MORE, SAME
from tests.test_halls import bears

REFUSALS = (LoomError, NoHand, Empty, Full)
HI = ("say", "ann", "bob", "hi")
# Of two words, for ever: with a great room too many stands come.
EVER = read_talk("hands(ann bob) begin a() part a(): ann { bob hi a() | bob no a() }")


def house_of(editions, *deeds, room=1):
    house = House(editions[0], room=room)
    for board in editions[1:]:
        house.publish(board)
    for deed in deeds:
        house.all_of((deed,))
    return house


def told_of(house):
    """All that a house tells but its book."""
    hands = house.editions()[0][0]
    return (
        house.room, house.editions(), house.mix(), house.is_on(), house.is_busy(), house.can_do(), house.can_change(),
        [house.bar(hand) for hand in hands], [house.way_on(hand) for hand in hands], house.log(),
        list(house.views().items()), house.runs(), len(house), str(house), repr(house),
    )


def words(house, start=0):
    """The book behind a number of its rows, with a sign for each way."""
    return " ".join({"in": "+", "out": "-"}[way] + word for way, word in house.book()[start:])


class TestNewHouses(unittest.TestCase):
    def test_the_begin(self):
        with Unchanged(self, GONE):
            house = House(board=GONE)
            self.assertEqual(told_of(house), (
                1, (GONE,), (0, 0, 0), False, False, (), (), [None] * 3, [None] * 3, (), [], (), 0,
                "3 hands, 1 editions, mix 0,0,0, off", "House(3 hands, 1 editions)",
            ))
        self.assertEqual((house.book(), House(GONE, room=9).room), ((), 9))

    def test_refused_in_this_order(self):
        for thing in anything():
            self.assertRaises(NoBoard, House, thing, room=0)
        self.assertRaises(TooWide, House, TOO_WIDE, room=0)
        self.assertRaises(NoEnds, House, ALONE["ends"], room=0)
        for room in [0, 10, -1, None, True, "1", [1], (1,), 10 ** 39]:
            self.assertRaises(NoRoom, House, GONE, room=room)


class TestDeeds(unittest.TestCase):
    def test_a_run(self):
        house = House(PAIR)
        self.assertEqual(house.begin(), 0)
        self.assertTrue(house.is_on())
        self.assertEqual(house.can_do(), (HI,))
        self.assertEqual(house.do(deed=HI), HI)
        self.assertEqual((house.log(), house.views()), ((HI,), {"ann": (("say", "bob", "hi"),), "bob": ()}))
        self.assertEqual(house.way_on("bob"), (("hear", "bob", "ann"),))
        self.assertRaises(NoDeed, house.end)
        self.assertRaises(NoDeed, house.begin)
        heard = house.do(("hear", "bob", "ann"))
        self.assertEqual(heard, ("hear", "bob", "ann", "hi"))
        self.assertEqual(str(house), "2 hands, 1 editions, mix 0,0, on")
        self.assertEqual(house.end(), (HI, heard))
        self.assertEqual((house.runs(), len(house), house.log(), house.is_on()), ((((0, 0), (HI, heard)),), 1, (), False))
        self.assertEqual(house.begin(), 1)
        self.assertIsNone(house.drop())
        self.assertEqual((len(house), house.is_on()), (1, False))

    def test_its_book(self):
        house = House(PAIR)
        house.begin()
        self.assertRaises(NoDeed, house.end)
        self.assertRaises(NoDeed, house.do, None)
        house.drop()
        house.back()
        self.assertRaises(NoBoard, house.publish, None)
        self.assertRaises(NoHand, house.change, None)
        told_of(house)
        house.twin()
        self.assertEqual(words(house), "+begin -begin +end -end +do -do +drop -drop +back -back +publish -publish "
                                       "+change -change")
        self.assertEqual(house.book()[:2], (("in", "begin"), ("out", "begin")))

    def test_a_run_is_done_where_hands_have_fallen(self):
        house = House(GONE)
        house.begin()
        for deed in (("fall", "ann"), ("hear", "bob", "ann"), ("say", "bob", "cy", "gone")):
            house.do(deed)
        self.assertRaises(NoDeed, house.end)
        house.do(("hear", "cy", "bob"))
        self.assertEqual(len(house.end()), 4)

    def test_refused_as_halls_do(self):
        house = House(ROUND, room=1)
        house.begin()
        for deed in anything() + [("say", "ann", "bob"), ("fall",), ("begin",)]:
            self.assertRaises(NoDeed, house.do, deed)
        for hand in ("eve", None, [], True):
            with self.assertRaises(NoHand) as caught:
                house.do(("hear", hand, "ann"))
            self.assertTrue(same(caught.exception.hand, hand))
        with self.assertRaises(Empty) as caught:
            house.do(("hear", "bob", "ann"))
        self.assertEqual(bears(caught.exception), ("ann", "bob"))
        ever = House(EVER, room=2)
        ever.begin()
        ever.do(HI)
        ever.do(HI)
        with self.assertRaises(Full) as caught:
            ever.do(HI)
        self.assertEqual(bears(caught.exception), ("ann", "bob"))
        off = House(ROUND)
        for call in (lambda: off.do(HI), lambda: off.do(None), off.end, off.drop, off.back):
            self.assertRaises(NoDeed, call)
        self.assertEqual(len(off.book()), 10)

    def test_publish(self):
        house = House(MORE[0])
        for thing in anything() + [GONE, (("bob", "ann"),) + MORE[0][1:]]:
            self.assertRaises(NoBoard, house.publish, thing)
        stuck = House(ALONE["ends"][:2] + ((("ann", (("bob", "hi", 1),)), None),))
        self.assertRaises(NoEnds, stuck.publish, ALONE["ends"])
        wide = House((TOO_WIDE[0], (), ((TOO_WIDE[0][0], ((TOO_WIDE[0][1], "hi", 1),)), None)))
        self.assertRaises(TooWide, wide.publish, TOO_WIDE)
        self.assertEqual([house.publish(board=board) for board in (MORE[1], PAIR, MORE[0])], [1, 2, 3])
        for board in MORE:
            self.assertRaises(NoDeed, house.publish, board)
        self.assertRaises(NoBoard, house.publish, GONE)
        self.assertEqual((house.editions(), str(house)), ((MORE[0], MORE[1], PAIR, MORE[0]), "2 hands, 4 editions, mix 0,0, off"))
        four = House(ALONE["ends"][:2] + ((("ann", (("bob", "hi", 1),)), None),))
        for _ in range(3):
            four.publish(four.editions()[0])
        self.assertRaises(NoEnds, four.publish, ALONE["ends"])

    def test_publish_while_a_run_is_on(self):
        house = house_of(ASKING_TWO[:1], ("begin",), ("do", HI))
        self.assertEqual(house.publish(ASKING_TWO[1]), 1)
        self.assertEqual((house.log(), house.mix(), house.is_on()), ((HI,), (0, 0, 0), True))
        self.assertRaises(NoDeed, house.change, "bob")
        self.assertEqual((house.can_change(), house.bar("bob")), ((), None))
        for _ in range(2):
            house.do(house.way_on("bob")[-1])
        house.do(("hear", "ann", "bob"))
        house.end()
        self.assertEqual(house.can_change(), ("bob", "cy"))

    def test_change(self):
        house = house_of(ASKING_FOUR)
        self.assertEqual(house.can_change(), ("bob", "cy"))
        self.assertEqual(house.bar("ann")[1][:3], ("waits", "ann", ("bob",)))
        self.assertRaises(NoEnds, house.change, "ann")
        self.assertEqual([house.change(hand=hand) for hand in ("bob", "cy", "ann", "cy")], [1, 1, 1, 2])
        self.assertEqual(house.mix(), (1, 1, 2))
        house.change("cy")
        self.assertRaises(NoDeed, house.change, "cy")
        self.assertIsNone(house.bar("cy"))
        self.assertNotIn("cy", house.can_change())
        for hand in anything():
            for call in (house.change, house.bar, house.way_on):
                with self.assertRaises(NoHand) as caught:
                    call(hand)
                self.assertTrue(same(caught.exception.hand, hand))
        # NoHand ahead of NoDeed.
        house.begin()
        self.assertRaises(NoHand, house.change, "eve")

    def test_bars_are_runs_to_faults(self):
        for editions in ALL:
            house = house_of(editions)
            for hand in editions[0][0]:
                bar = house.bar(hand=hand)
                mix = tuple(int(name == hand) for name in editions[0][0])
                ends = tuple(made(editions[number])[1][at] for at, number in enumerate(mix))
                weak = tuple(sorted(h for h, number in zip(editions[0][0], mix) if h in editions[number][1]))
                self.assertIs(bar is None, walked(ends, weak=weak)[0] == "sound")
                self.assertIs(bar is None, hand in house.can_change())
                if bar is not None:
                    self.assertTrue(shows_run(ends, bar, weak=weak))

    def test_too_wide(self):
        house = house_of((EVER, EVER), room=9)
        for call in (house.change, house.bar):
            self.assertRaises(TooWide, call, "ann")
            self.assertRaises(TooWide, call, "ann")
        self.assertEqual((house.can_change(), house.mix()), ((), (0, 0)))
        house.begin()
        self.assertEqual(house.way_on("bob")[-1], ("hear", "bob", "ann"))
        narrow = house_of((EVER, EVER), room=8)
        self.assertEqual(narrow.can_change(), ("ann", "bob"))
        # The first edition alone is never too wide.
        self.assertEqual(House(EVER, room=9).can_change(), ())

    def test_what_was_barred_is_looked_at_anew(self):
        house = house_of(COMING)
        self.assertEqual(house.can_change(), ("ann",))
        house.back()
        house.publish(COMING[0])
        self.assertEqual(house.can_change(), ("ann", "bob", "cy"))
        self.assertEqual(house.change("cy"), 1)
        wide = house_of((EVER, EVER), room=9)
        self.assertEqual(wide.can_change(), ())
        wide.back()
        wide.publish(PAIR)
        self.assertRaises(NoEnds, wide.change, "ann")


class TestRows(unittest.TestCase):
    ROW = (("begin",), ("do", HI), ("do", ("hear", "bob", "ann")), ("end",), ("publish", MORE[1]), ("begin",), ("drop",))

    def test_all_or_none(self):
        house = House(MORE[0])
        self.assertEqual(house.all_of(deeds=self.ROW), (
            0, HI, ("hear", "bob", "ann", "hi"), (HI, ("hear", "bob", "ann", "hi")), 1, 1, None,
        ))
        self.assertEqual(words(house), "+all_of +begin -begin +do -do +do -do +end -end +publish -publish +begin -begin "
                                       "+drop -drop -all_of")
        ahead = told_of(house)
        for last, error in ((("end",), NoDeed), (("do", HI), NoDeed), (("change", "eve"), NoHand), (("change", "ann"), NoEnds),
                            (("publish", GONE), NoBoard), (("publish", ALONE["ends"]), NoBoard)):
            start = len(house.book())
            self.assertRaises(error, house.all_of, (("begin",), ("do", HI), ("publish", PAIR), ("drop",), last, ("begin",)))
            self.assertEqual(told_of(house), ahead)
            self.assertEqual(words(house, start), "+all_of +begin -begin +do -do +publish -publish +drop -drop "
                                                  f"+{last[0]} -{last[0]} -all_of")
        house.back()
        self.assertEqual(house, House(MORE[0]))

    def test_within_a_run(self):
        house = house_of((ROUND,), ("begin",), ("do", HI))
        ahead = told_of(house)
        self.assertRaises(Empty, house.all_of, (("do", ("hear", "bob", "ann")), ("do", ("hear", "bob", "ann"))))
        self.assertRaises(NoDeed, house.all_of, (("do", ("fall", "bob")), ("do", ("fall", "ann")), ("end",), ("end",)))
        self.assertEqual(told_of(house), ahead)
        house.back()
        self.assertEqual(house.log(), ())
        house.do(HI)
        self.assertEqual(told_of(house), ahead)

    def test_forms_are_looked_at_ahead(self):
        house = House(MORE[0])
        for thing in anything() + [[("begin",)], (["begin"],), (("begin", 1),), (("change",),), (("do",),), (("publish",),),
                                   (("back",),), (("drive", None),), (("all_of", ()),), ("begin",), (("say",) + HI[1:],),
                                   (("end", None),), (("drop", 0),), (("do", HI, HI),), (("Begin",),)]:
            if thing == ():
                continue
            with self.subTest(thing=thing), Unchanged(self, thing):
                start = len(house.book())
                self.assertRaises(NoDeed, house.all_of, thing)
                if isinstance(thing, tuple):
                    self.assertRaises(NoDeed, house.all_of, (("change", "eve"),) + thing)
                self.assertEqual(set(house.book()[start:]), {("in", "all_of"), ("out", "all_of")})

    def test_an_empty_row_stands(self):
        house = house_of(MORE)
        self.assertEqual(house.all_of(()), ())
        house.back()
        self.assertEqual(len(house.editions()), 2)
        house.back()
        self.assertEqual(len(house.editions()), 1)
        self.assertRaises(NoDeed, house.back)

    def test_back_further_than_there_is(self):
        house = house_of(SAME, ("change", "ann"), ("begin",), ("drop",), ("begin",))
        ahead = [house.twin()]
        for at in range(6):
            house.back()
            ahead.append(house.twin())
        self.assertEqual(house, House(SAME[0]))
        for _ in range(2):
            self.assertRaises(NoDeed, house.back)
        self.assertEqual(told_of(house), told_of(House(SAME[0])))
        self.assertEqual([len(one.editions()) for one in ahead], [3, 3, 3, 3, 3, 2, 1])
        self.assertEqual([one.is_on() for one in ahead], [True, False, True, False, False, False, False])
        self.assertEqual([one.mix()[2] for one in ahead], [1, 1, 1, 1, 0, 0, 0])

    def test_back_into_a_run_that_was_over(self):
        house = house_of((PAIR,), ("begin",), ("do", HI), ("do", ("hear", "bob", "ann")), ("end",), ("begin",), ("do", HI))
        for log, over in (((), 1), (None, 1), ((HI, ("hear", "bob", "ann", "hi")), 0), ((HI,), 0), ((), 0), (None, 0)):
            self.assertIsNone(house.back())
            self.assertEqual((house.log() if house.is_on() else None, len(house)), (log, over))


class TestDrives(unittest.TestCase):
    def test_a_drive_to_the_end(self):
        house = house_of((GONE,), ("begin",))
        asked = []

        def first(deeds):
            asked.append(deeds)
            self.assertTrue(house.is_busy())
            return 0

        rows = house.drive(first)
        self.assertEqual(rows, house.log())
        self.assertEqual([len(deeds) for deeds in asked], [1, 1, 1, 1])
        self.assertEqual(asked[0], (("say", "ann", "bob", "go"),))
        self.assertFalse(house.is_busy())
        self.assertEqual(words(house, 4), "+drive " + "+do -do " * 4 + "-drive")
        self.assertEqual(house.drive(first), ())
        self.assertEqual(len(asked), 4)
        house.back()
        self.assertEqual(house.log(), rows)
        house.back()
        self.assertEqual((house.log(), house.is_on()), ((), True))
        self.assertEqual(house.drive(first, most=4), rows)
        self.assertEqual(len(house.end()), 4)

    def test_all_deeds_but_falls_rising(self):
        house = house_of((ROUND,), ("begin",), ("do", HI))
        asked = []
        house.drive(lambda deeds: asked.append(deeds))
        self.assertEqual(asked, [tuple(deed for deed in house.can_do() if deed[0] != "fall")])
        self.assertEqual(asked, [(("hear", "bob", "ann"),)])
        apart = house_of((APART,), ("begin",))
        asked = []
        apart.drive(choose=lambda deeds: asked.append(deeds))
        self.assertEqual(asked, [apart.can_do()])
        self.assertEqual(len(asked[0]), 4)

    def test_numbers_and_most(self):
        house = house_of((EVER,), ("begin",), room=9)
        self.assertEqual(house.drive(lambda deeds: len(deeds) - 1, most=3), (("say", "ann", "bob", "no"),) * 3)
        self.assertEqual(house.drive(lambda deeds: self.fail(), most=0), ())
        self.assertEqual(len(house.drive(lambda deeds: 0)), 200)
        self.assertEqual(len(house.drive(lambda deeds: len(deeds) - 1, most=7)), 7)
        for _ in range(4):
            house.back()
        self.assertEqual((house.log(), house.is_on()), ((), True))

    def test_none_ends_it(self):
        house = house_of((ROUND,), ("begin",))
        told = iter([0, 0, None, 0])
        self.assertEqual(len(house.drive(lambda deeds: next(told))), 2)
        self.assertEqual((len(house.log()), house.is_busy()), (2, False))
        self.assertEqual(house.drive(lambda deeds: None), ())
        house.back()
        self.assertEqual(len(house.log()), 2)
        house.back()
        self.assertEqual(len(house.log()), 0)

    def test_other_things_undo_it(self):
        house = house_of((ROUND,), ("begin",), ("do", HI))
        ahead = told_of(house)
        for thing in anything()[1:] + [1, -1, "0", 0.0, 10 ** 39, (0,), [0], True, False]:
            if same(thing, 0):
                continue
            told = iter([0, thing])
            start = len(house.book())
            self.assertRaises(NoDeed, house.drive, lambda deeds: next(told))
            self.assertEqual(told_of(house), ahead)
            self.assertEqual(words(house, start), "+drive +do -do -drive")
        house.back()
        self.assertEqual(house.log(), ())

    def test_what_it_raises_comes_through(self):
        class Odd(Exception):
            pass

        house = house_of((ROUND,), ("begin",), ("do", HI))
        ahead = told_of(house)
        for kind in (Odd, ValueError, KeyError, NoDeed, KeyboardInterrupt, StopIteration, RuntimeError):
            told = iter([0, 0])
            error = kind("so")

            def choose(deeds):
                for number in told:
                    return number
                raise error

            start = len(house.book())
            with self.assertRaises(kind) as caught:
                house.drive(choose)
            self.assertIs(caught.exception, error)
            self.assertEqual(told_of(house), ahead)
            self.assertEqual(words(house, start), "+drive +do -do +do -do -drive")
        self.assertFalse(house.is_busy())
        house.do(("hear", "bob", "ann"))
        house.back()
        house.back()
        self.assertEqual(house.log(), ())

    def test_busy(self):
        house = house_of((MORE[0],), ("begin",))
        seen = []

        def choose(deeds):
            calls = [
                lambda: house.publish(None), lambda: house.change("eve"), house.begin, lambda: house.do(None), house.end,
                house.drop, lambda: house.all_of(None), house.back, lambda: house.drive(None), lambda: house.drive(choose, most=0),
                lambda: house.do(deeds[0]), lambda: house.all_of(()),
            ]
            for call in calls:
                self.assertRaises(NoDeed, call)
                self.assertTrue(house.is_busy())
            seen.append((house.log(), house.can_do(), house.mix(), house.views()["ann"]))
            return 0

        self.assertEqual(len(house.drive(choose, most=2)), 2)
        self.assertFalse(house.is_busy())
        self.assertEqual([log for log, *_ in seen], [(), (HI,)])
        self.assertEqual(seen[1][1:], ((("hear", "bob", "ann"),), (0, 0), (("say", "bob", "hi"),)))
        names = "publish change begin do end drop all_of back drive drive do all_of".split()
        inner = " ".join(f"+{name} -{name}" for name in names)
        self.assertEqual(words(house, 4), f"+drive {inner} +do -do {inner} +do -do -drive")
        house.back()
        self.assertEqual(house.log(), ())

    def test_a_call_amid_that_is_not_caught(self):
        house = house_of((PAIR,), ("begin",))
        ahead = told_of(house)
        for call in (house.end, house.back, lambda: house.drive(lambda deeds: 0), lambda: house.do(HI)):
            self.assertRaises(NoDeed, house.drive, lambda deeds: call())
            self.assertEqual(told_of(house), ahead)

    def test_refused_where_no_run_is_on(self):
        house = House(PAIR)
        self.assertRaises(NoDeed, house.drive, lambda deeds: self.fail())
        self.assertEqual(words(house), "+drive -drive")
        self.assertFalse(house.is_busy())
        self.assertRaises(NoDeed, house.back)


class TestWays(unittest.TestCase):
    def test_shortest(self):
        dice = random.Random(11)
        for board in [PAIR, GONE, ROUND, APART, SIX, chain(9)] + [editions[-1] for editions in ALL]:
            for room in (1, 3):
                house = house_of((board,), ("begin",), room=room)
                for _ in range(8):
                    for hand in board[0]:
                        self.look(house, hand)
                    deeds = [deed for deed in house.can_do() if deed[0] != "fall" or dice.random() < 0.2]
                    if not deeds:
                        break
                    house.do(dice.choice(deeds))

    def look(self, house, hand):
        ends, weak = made(house.editions()[0])[1], house.editions()[0][1]
        hall = hall_behind(ends, house.log(), room=house.room, weak=weak)
        way = house.way_on(hand)
        self.assertTrue(shows_way(hall, way, hand=hand))
        if way is not None:
            self.assertEqual(len(way), self.slow_length(ends, weak, hall, hand))

    def slow_length(self, ends, weak, hall, hand):
        """How many deeds a shortest way has."""
        ring, seen, many = [stand_of(hall)], {stand_of(hall)}, 1
        while ring:
            found = []
            for stand in ring:
                for deed in deeds_at(ends, stand, room=hall.room, weak=weak):
                    if deed[0] == "fall":
                        continue
                    if deed[1] == hand:
                        return many
                    then = stand_behind(ends, stand, deed, room=hall.room, weak=weak)
                    if then not in seen:
                        seen.add(then)
                        found.append(then)
            ring, many = found, many + 1
        return None

    def test_where_others_talk_apart(self):
        # What ann and bob say hangs together with flo's word; cy may say more words to others than can be gone along.
        pairs = [("ann", "bob"), ("cy", "dora"), ("bob", "ann"), ("cy", "ed")] * 8
        names = [f"p{'abcdefgh'[at // 4]}{'wxyz'[at & 3]}()" for at in range(32)] + ["last()"]
        parts = [f"part {name}: {sayer} {{ {hearer} hi {then} | {hearer} no {then} }}"
                 for name, then, (sayer, hearer) in zip(names, names[1:], pairs)]
        parts.append("part last(): bob { flo go . }")
        house = House(read_talk(f"hands(ann bob cy dora ed flo) begin {names[0]} " + " ".join(parts)), room=9)
        house.begin()
        self.assertEqual(len(house.way_on("flo")), 33)
        self.assertEqual(len(house.way_on("cy")), 1)

    def test_in_a_mix(self):
        house = house_of(ASKING_TWO, ("change", "bob"), ("begin",))
        self.assertEqual(house.way_on(hand="bob"), (HI, ("hear", "bob", "ann")))
        self.assertIsNone(house.way_on("cy"))
        house.do(HI)
        self.assertEqual(house.way_on("ann"), (("hear", "bob", "ann"), ("say", "bob", "ann", "ok"), ("hear", "ann", "bob")))
        house.drop()
        self.assertIsNone(house.way_on("ann"))


class TestTwins(unittest.TestCase):
    def test_a_twin_is_by_itself(self):
        house = house_of(SAME, ("change", "ann"), ("begin",), ("do", ("say", "cy", "bob", "hi")))
        twin = house.twin()
        self.assertIsInstance(twin, House)
        self.assertEqual((twin, told_of(twin), twin.book()), (house, told_of(house), ()))
        ahead, book = told_of(house), house.book()
        twin.do(("hear", "bob", "cy"))
        twin.drop()
        twin.change("bob")
        self.assertNotEqual(house, twin)
        self.assertEqual((told_of(house), house.book()), (ahead, book))
        for _ in range(3):
            twin.back()
        self.assertEqual(told_of(twin), ahead)
        # What was done ahead of the twin can be taken back at both.
        for one in (twin, house):
            for _ in range(5):
                one.back()
            self.assertRaises(NoDeed, one.back)
            self.assertEqual(one, House(SAME[0]))

    def test_like_ones(self):
        deeds = (("change", "ann"), ("begin",), ("do", ("say", "cy", "bob", "hi")))
        house = house_of(SAME, *deeds)
        self.assertTrue(house == house_of(SAME, *deeds))
        self.assertTrue(house == house_of(SAME, ("begin",), ("drop",), *deeds))
        other = house_of(SAME, *deeds)
        self.assertRaises(NoDeed, other.begin)
        self.assertEqual(house, other)
        for thing in (
            house_of(SAME, *deeds, room=2), house_of(SAME[:2], *deeds), house_of(SAME, *deeds[1:]), house_of(SAME, *deeds[:2]),
            house_of(SAME, *deeds[:1]), house_of(SAME, *deeds, ("drop",)), None, SAME[0], "House", 3, [], made(PAIR),
        ):
            self.assertFalse(house == thing)
            self.assertTrue(house != thing)
        over = (("begin",), ("do", HI), ("do", ("hear", "bob", "ann")), ("end",))
        self.assertNotEqual(house_of((PAIR,)), house_of((PAIR,), *over))
        self.assertNotEqual(House(PAIR), House(PAIR, room=2))
        self.assertEqual(house_of((PAIR,), *over), house_of((PAIR,), *over))

    def test_what_was_told_may_be_changed(self):
        house = house_of((PAIR,), ("begin",), ("do", HI))
        house.views().clear()
        self.assertEqual(len(house.views()), 2)
        self.assertEqual(told_of(house), told_of(house))


class TestThrown(unittest.TestCase):
    def test_as_slow_ones(self):
        dice = random.Random(13)
        for editions in ALL * 5 + [(PAIR,), (GONE, GONE), (ROUND, ROUND)] * 4:
            for room in (1, 2):
                house, slow = House(editions[0], room=room), SlowHouse(editions[0], room)
                for _ in range(30):
                    house = self.one(house, slow, editions, dice)
                    self.look_over(house, slow)

    def one(self, house, slow, editions, dice):
        kind = dice.random()
        if kind < 0.6:
            self.both(lambda: self.by_itself(house, deed), lambda: slow.deed(deed)) if (
                deed := self.thrown(house, editions, dice)) else None
        elif kind < 0.75:
            deeds = tuple(self.thrown(house, editions, dice) for _ in range(dice.randint(0, 3)))
            self.both(lambda: house.all_of(deeds), lambda: slow.row(deeds))
        elif kind < 0.87:
            self.both(lambda: house.back() or (), slow.back)
        elif kind < 0.95 and house.is_on():
            self.drive_both(house, slow, dice)
        else:
            house = house.twin()
            slow.book = []
        return house

    def by_itself(self, house, deed):
        told = getattr(house, deed[0])(*deed[1:])
        return () if deed[0] == "drop" else told

    def thrown(self, house, editions, dice):
        hands = house.editions()[0][0]
        deeds = [("publish", dice.choice(editions)), ("change", dice.choice(hands)), ("change", dice.choice(hands)),
                 ("begin",), ("end",), ("end",), dice.choice([("drop",), ("begin",)])]
        if house.can_do():
            deeds += [("do", dice.choice(house.can_do())) for _ in range(12)]
        return dice.choice(deeds)

    def drive_both(self, house, slow, dice):
        chosen = []
        most = dice.randint(0, 4)

        def choose(deeds):
            number = dice.randrange(len(deeds))
            chosen.append(("do", deeds[number]))
            return number

        rows = house.drive(choose, most=most)
        self.assertEqual(rows, slow.row(tuple(chosen), "drive"))

    def both(self, call, slow_call):
        expected = slow_call()
        try:
            told = call()
        except REFUSALS as caught:
            told = (None, type(caught), bears(caught))
        if type(told) is tuple and not is_refused(told):
            told = tuple(() if one is None else one for one in told)
        self.assertTrue(same(told, expected), (told, expected))

    def look_over(self, house, slow):
        state = slow.state()
        self.assertEqual((house.editions(), house.mix(), house.runs()), (tuple(state.editions), state.mix, tuple(state.runs)))
        self.assertEqual((house.is_on(), house.log(), len(house)), (state.log is not None, state.log or (), len(state.runs)))
        self.assertEqual(house.book(), tuple(slow.book))
        hall = state.hall() if state.log is not None else None
        self.assertEqual(house.can_do(), hall.can_do() if hall else ())
        self.assertEqual(house.views(), {hand: hall.view(hand) for hand in hall.hands} if hall else {})
        can = tuple(hand for hand in sorted(state.editions[0][0]) if not is_refused(slow.state().go(("change", hand))))
        self.assertEqual(house.can_change(), can)
        mix = ",".join(map(str, state.mix))
        self.assertEqual(str(house), f"{len(state.mix)} hands, {len(state.editions)} editions, mix {mix}, "
                                     + ("on" if hall else "off"))
        self.assertEqual(repr(house), f"House({len(state.mix)} hands, {len(state.editions)} editions)")


if __name__ == "__main__":
    unittest.main()
