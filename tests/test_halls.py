"""Halls over roads (6.1 to 6.5), and the interface's part sayloom/halls.py."""

import random
import unittest

from sayloom.errors import Empty, Full, LoomError, NoDeed, NoEnds, NoHand, NoRoom, NoRow
from sayloom.halls import Hall, are_ends, fault_in, hall_behind
from sayloom.made import made_end
from sayloom.making import is_let, made
from tests.kinds import GONE, LET, LIKE_DEEDS, LIKE_HANDS, ROUND, SIX, renamed
from tests.machines import ASKS, DONE, thrown_end
from tests.samples import PAIR, Unchanged, anything, made_up_boards, same, with_one_listed, with_one_otherwise
from tests.slow_halls import SlowHall, bears
from tests.test_ends import no_ends

REFUSALS = (LoomError, NoHand, Empty, Full)
# ann says as many words as she likes to bob, who hears them and both falls; cy hears bob and tells ann.
TALK = (
    ("bob", ((("hear", "ann", "!", 1), ("hear", "ann", "hi", 0), ("hear", "cy", "!", 0), ("say", "cy", "on", 0)), ())),
    ("ann", ((("hear", "cy", "yes", 1), ("say", "bob", "hi", 0), ("say", "cy", "hi", 0)), ())),
    ("cy", ((("hear", "ann", "!", 0), ("hear", "bob", "on", 1)), (("say", "ann", "yes", 0),))),
)
WEAK = ("ann", "cy")
HI = ("say", "ann", "bob", "hi")
SIX_ENDS = tuple(made_end(SIX, hand) for hand in SIX[0])


def talk(room=None, weak=WEAK, deeds=()):
    hall = Hall(TALK, room=room, weak=weak)
    for deed in deeds:
        hall.do(deed)
    return hall


def told_of(hall):
    """All that a hall tells but its counts."""
    hands = [hand for hand, _ in hall.ends]
    pairs = [(one, two) for one in hands for two in hands if one != two]
    return (
        hall.ends, hall.room, hall.weak, hall.log(), hall.can_do(), hall.fallen(), list(hall.under_way().items()),
        list(hall.views().items()), [hall.state_of(hand) for hand in hands], [hall.is_done(hand) for hand in hands],
        [hall.view_of(hand) for hand in hands], [hall.road(*pair) for pair in pairs], len(hall), str(hall), repr(hall),
    )


class TestEnds(unittest.TestCase):
    def test_two_to_six_ends_of_unlike_hands(self):
        for thing in (TALK, SIX_ENDS, (DONE, ("bob", ((),))), made(PAIR)[1]):
            with self.subTest(thing=thing), Unchanged(self, thing):
                self.assertIs(are_ends(thing), True)
                self.assertIs(are_ends(thing=thing), True)
        for thing in (TALK[:1], (), SIX_ENDS + (("gus", ((),)),), (DONE, DONE), TALK + (DONE,), list(TALK), TALK[0]):
            self.assertIs(are_ends(thing), False)

    def test_they_name_no_other_hands(self):
        self.assertIs(are_ends(TALK[:2]), False)
        self.assertIs(are_ends((ASKS, DONE)), False)
        self.assertIs(are_ends((ASKS, ("bob", ((),)))), True)
        self.assertIs(are_ends((ASKS, ("cy", ((),)))), False)
        # In states that nobody comes to, too.
        self.assertIs(are_ends((DONE[:1] + (((), (("say", "eve", "hi", 0),)),), ("bob", ((),)))), False)

    def test_false_of_anything(self):
        for thing in anything() + no_ends() + [(thing, DONE) for thing in no_ends()] + [(DONE, None), PAIR]:
            with self.subTest(thing=thing), Unchanged(self, thing):
                self.assertIs(are_ends(thing), False)

    def test_each_part_is_looked_at(self):
        for thing in [True, False, [], {}, "", "Ann", "eve", [1], {"a": 1}, -1, 10 ** 40 - 1, (1,)]:
            for broken in with_one_otherwise(TALK, thing):
                # Another word than one of the talk may be heard or said.
                if thing != "eve" or "eve" in [end[0] for end in broken if isinstance(end, tuple)]:
                    self.assertIs(are_ends(broken), False, broken)
        for broken in with_one_listed(TALK):
            self.assertIs(are_ends(broken), False, broken)


class TestNewHalls(unittest.TestCase):
    def test_values_and_the_begin(self):
        with Unchanged(self, TALK, WEAK):
            hall = Hall(TALK, room=9, weak=WEAK)
            self.assertTrue(same((hall.ends, hall.room, hall.weak), (TALK, 9, WEAK)))
            self.assertEqual([hall.state_of(hand) for hand in ("ann", "bob", "cy")], [0, 0, 0])
            self.assertEqual((hall.log(), hall.fallen(), hall.under_way(), hall.counts()), ((), (), {}, (0, 0)))
        hall = Hall(TALK)
        self.assertEqual((hall.ends, hall.room, hall.weak), (TALK, None, ()))
        hall = Hall(weak=("bob",), room=1, ends=TALK)
        self.assertEqual((hall.ends, hall.room, hall.weak), (TALK, 1, ("bob",)))
        self.assertRaises(TypeError, Hall, TALK, 1)

    def test_no_ends_then_no_room_then_no_hand(self):
        for thing in anything() + no_ends() + [TALK[:2], list(TALK), SIX_ENDS + (("gus", ((),)),)]:
            with self.subTest(thing=thing), Unchanged(self, thing):
                self.assertRaises(NoEnds, Hall, thing, room=0, weak=None)
        for thing in anything() + [0, 10, -1, "1", [1], (1,), ()]:
            if thing is not None:
                with self.subTest(thing=thing), Unchanged(self, thing):
                    self.assertRaises(NoRoom, Hall, TALK, room=thing, weak=None)
        weaks = anything() + [0, "ann", ["ann"], ("bob", "ann"), ("ann", "ann"), ("ann", "eve"), (["ann"],), ("",),
                              ("ann", "bob", "cy", "eve"), (True,), ((),)]
        for thing in weaks:
            if not same(thing, ("ann",)):
                with self.subTest(thing=thing), Unchanged(self, thing):
                    with self.assertRaises(NoHand) as caught:
                        Hall(TALK, weak=thing)
                    self.assertTrue(same(caught.exception.hand, thing))
        for room in [None] + list(range(1, 10)):
            self.assertEqual(Hall(TALK, room=room, weak=("ann", "bob", "cy")).room, room)


class TestDeeds(unittest.TestCase):
    def refused(self, kind, bearing, asked, *more):
        with Unchanged(self, more), self.assertRaises(kind) as caught:
            asked(*more)
        self.assertTrue(same(bears(caught.exception), bearing), (more, caught.exception))

    def test_said_and_heard(self):
        hall = talk()
        self.assertTrue(same(hall.say("ann", "bob", "hi"), HI))
        self.assertTrue(same(hall.say("bob", "cy", "on"), ("say", "bob", "cy", "on")))
        self.assertEqual(hall.road("ann", "bob"), ("hi",))
        self.assertTrue(same(hall.hear("bob", "ann"), ("hear", "bob", "ann", "hi")))
        self.assertEqual(hall.road("ann", "bob"), ())
        self.assertEqual(hall.hear("cy", "bob"), ("hear", "cy", "bob", "on"))
        self.assertEqual(hall.state_of("cy"), 1)
        self.assertEqual(hall.do(("say", "cy", "ann", "yes")), ("say", "cy", "ann", "yes"))
        self.assertIs(hall.is_done("ann"), False)
        self.assertEqual(hall.do(("hear", "ann", "cy")), ("hear", "ann", "cy", "yes"))
        self.assertIs(hall.is_done("ann"), True)
        self.assertEqual(hall.view_of("ann"), (("say", "bob", "hi"), ("hear", "cy", "yes")))
        self.assertEqual(hall.counts(), (6, 0))

    def test_the_first_word_on_a_road_is_heard_first(self):
        ends = (("ann", ((("say", "bob", "a", 0), ("say", "bob", "b", 0)),)),
                ("bob", ((("hear", "ann", "b", 0),),)))
        hall = Hall(ends)
        for word in "bab":
            hall.say("ann", "bob", word)
        self.assertEqual(hall.road("ann", "bob"), ("b", "a", "b"))
        self.assertEqual(hall.hear("bob", "ann"), ("hear", "bob", "ann", "b"))
        # What is first now can't be heard; nothing goes past it.
        self.refused(NoDeed, (), hall.hear, "bob", "ann")
        self.assertEqual(hall.can_do(), (("say", "ann", "bob", "a"), ("say", "ann", "bob", "b")))

    def test_room(self):
        for room in (1, 2, 9):
            hall = talk(room)
            for _ in range(room):
                hall.do(HI)
            self.refused(Full, ("ann", "bob"), hall.say, "ann", "bob", "hi")
            self.assertNotIn(HI, hall.can_do())
            hall.say("ann", "cy", "hi")
            hall.hear("bob", "ann")
            self.assertEqual(hall.do(HI), HI)
        hall = talk(None, deeds=[HI] * 300)
        self.assertEqual(hall.road("ann", "bob"), ("hi",) * 300)

    def test_a_fall_lies_behind_all_words_and_takes_no_room(self):
        hall = talk(1, deeds=[HI])
        self.assertTrue(same(hall.fall("ann"), ("fall", "ann")))
        self.assertEqual(hall.road("ann", "bob"), ("hi", "!"))
        self.assertEqual(hall.under_way(), {("ann", "bob"): ("hi", "!"), ("ann", "cy"): ("!",)})
        self.assertEqual(hall.hear("bob", "ann"), ("hear", "bob", "ann", "hi"))
        self.assertEqual(hall.hear("bob", "ann"), ("hear", "bob", "ann", "!"))
        self.assertEqual(hall.state_of("bob"), 1)
        self.refused(Empty, ("ann", "bob"), hall.hear, "bob", "ann")
        self.assertEqual(hall.fallen(), ("ann",))

    def test_roads_to_the_fallen_are_emptied_and_stay_so(self):
        hall = talk(1, deeds=[("say", "bob", "cy", "on"), ("say", "ann", "cy", "hi"), ("fall", "ann")])
        self.assertEqual(hall.road("ann", "cy"), ("hi", "!"))
        hall.fall("cy")
        # Those of a fallen sayer, too; to the fallen leads no fault.
        self.assertEqual(hall.under_way(), {("ann", "bob"): ("!",), ("cy", "bob"): ("!",)})
        self.assertEqual(hall.fallen(), ("ann", "cy"))
        for _ in range(3):
            hall.say("bob", "cy", "on")
            self.assertEqual(hall.road("bob", "cy"), ())
        self.assertEqual(hall.counts(), (7, 0))

    def test_the_done_may_fall_and_nobody_falls_twice(self):
        hall = talk(deeds=[("say", "bob", "cy", "on"), ("hear", "cy", "bob"), ("say", "cy", "ann", "yes"),
                           ("hear", "ann", "cy")])
        self.assertIs(hall.is_done("ann"), True)
        self.assertEqual(hall.fall("ann"), ("fall", "ann"))
        self.refused(NoDeed, (), hall.fall, "ann")
        self.assertEqual((hall.state_of("ann"), hall.is_done("ann")), (1, True))
        self.assertEqual(hall.view_of("ann"), (("hear", "cy", "yes"),))

    def test_refusals_of_say(self):
        hall = talk(1, deeds=[HI, ("fall", "cy")])
        for thing in anything() + [(), 0, "dora", ["ann"], ("ann",)]:
            self.refused(NoHand, (thing,), hall.say, thing, thing, thing)
            self.refused(NoHand, (thing,), hall.say, "ann", thing, thing)
            self.refused(NoHand, (thing,), hall.say, "cy", thing, thing)
            self.refused(NoDeed, (), hall.say, "cy", "ann", thing)
            self.refused(NoDeed, (), hall.say, "ann", "bob", thing)
        self.refused(NoHand, ("ann",), hall.say, "ann", "ann", "hi")
        self.refused(NoHand, ("cy",), hall.say, "cy", "cy", "hi")
        self.refused(NoDeed, (), hall.say, "cy", "ann", "yes")
        self.refused(NoDeed, (), hall.say, "ann", "bob", "ho")
        self.refused(Full, ("ann", "bob"), hall.say, "ann", "bob", "hi")
        self.refused(NoDeed, (), hall.say, "ann", "bob", ["hi"])

    def test_refusals_of_hear(self):
        hall = talk(deeds=[HI, ("say", "ann", "cy", "hi"), ("fall", "ann")])
        for thing in anything() + [(), 0, "dora", ["ann"], ("ann",)]:
            self.refused(NoHand, (thing,), hall.hear, thing, thing)
            self.refused(NoHand, (thing,), hall.hear, "bob", thing)
            self.refused(NoHand, (thing,), hall.hear, "ann", thing)
        self.refused(NoHand, ("bob",), hall.hear, "bob", "bob")
        self.refused(NoDeed, (), hall.hear, "ann", "bob")
        self.refused(Empty, ("cy", "bob"), hall.hear, "bob", "cy")
        self.refused(NoDeed, (), hall.hear, "cy", "ann")
        # Its end could hear nothing of that sayer; the road is empty all the same.
        self.refused(Empty, ("bob", "ann"), talk().hear, "ann", "bob")

    def test_refusals_of_fall(self):
        hall = talk(deeds=[("fall", "ann")])
        for thing in anything() + [(), 0, "dora", ["ann"], ("ann",)]:
            self.refused(NoHand, (thing,), hall.fall, thing)
        self.refused(NoDeed, (), hall.fall, "ann")
        self.refused(NoDeed, (), hall.fall, "bob")
        self.refused(NoDeed, (), talk(weak=()).fall, "ann")

    def test_refusals_of_do(self):
        hall = talk(1, deeds=[HI, ("fall", "cy")])
        wrong = anything() + [(), 0, "say", ("say",), HI[:3], HI + ("hi",), list(HI), ("hear", "bob"), ("fall",), (HI,),
                              ("hear", "bob", "ann", "hi"), ("fall", "ann", "bob"), ("Say",) + HI[1:], {"say": HI},
                              (["say"],) + HI[1:], (True, "ann"), (None, "ann", "bob"), ("drop", "ann")]
        for thing in wrong:
            with self.subTest(thing=thing):
                self.refused(NoDeed, (), hall.do, thing)
        for thing in anything() + [()]:
            self.refused(NoHand, (thing,), hall.do, ("say", thing, thing, thing))
            self.refused(NoHand, (thing,), hall.do, ("hear", "bob", thing))
            self.refused(NoHand, (thing,), hall.do, ("fall", thing))
            self.refused(NoDeed, (), hall.do, ("say", "ann", "bob", thing))
        self.refused(Full, ("ann", "bob"), hall.do, HI)
        self.refused(Empty, ("bob", "ann"), hall.do, ("hear", "ann", "bob"))
        self.assertEqual(len(hall), 2)

    def test_by_name_in_any_order(self):
        hall = talk()
        hall.say(word="hi", hearer="bob", hand="ann")
        hall.hear(sayer="ann", hand="bob")
        hall.do(deed=HI)
        hall.all_of(deeds=(HI,))
        hall.fall(hand="cy")
        self.assertEqual(hall.road(hearer="bob", sayer="ann"), ("hi", "hi"))
        self.assertEqual((hall.state_of(hand="cy"), hall.is_done(hand="cy")), (0, False))
        self.assertEqual(hall.view_of(hand="bob"), (("hear", "ann", "hi"),))


class TestAllOrNone(unittest.TestCase):
    def test_all_are_done(self):
        hall = talk()
        deeds = (HI, ("hear", "bob", "ann"), ("fall", "ann"), ("hear", "bob", "ann"))
        rows = (HI, ("hear", "bob", "ann", "hi"), ("fall", "ann"), ("hear", "bob", "ann", "!"))
        with Unchanged(self, deeds):
            self.assertTrue(same(hall.all_of(deeds), rows))
        self.assertEqual((hall.log(), hall.counts()), (rows, (1, 0)))
        self.assertIsNone(hall.back())
        self.assertEqual((hall.log(), hall.counts()), ((), (2, 0)))
        self.assertEqual(told_of(hall), told_of(talk()))

    def test_or_none_where_the_last_one_is_refused(self):
        ahead = [HI, ("say", "bob", "cy", "on")]
        for last, kind, bearing in (
            (HI, Full, ("ann", "bob")), (("hear", "ann", "bob"), Empty, ("bob", "ann")), (("fall", "bob"), NoDeed, ()),
            (("say", "ann", "eve", "hi"), NoHand, ("eve",)), (None, NoDeed, ()), (("hear", "ann", "cy"), NoDeed, ()),
        ):
            hall = talk(1, deeds=ahead)
            before = told_of(hall)
            deeds = (("hear", "bob", "ann"), HI, ("hear", "cy", "bob"), ("fall", "cy"), last)
            if last == ("hear", "ann", "cy"):
                deeds = deeds[:3] + (("fall", "cy"), last)
            with self.subTest(last=last), Unchanged(self, deeds):
                with self.assertRaises(kind) as caught:
                    hall.all_of(deeds)
                self.assertEqual(bears(caught.exception), bearing)
                self.assertTrue(same(told_of(hall), before))
                self.assertEqual(hall.counts(), (3, 1))
                hall.all_of(deeds[:-1])
                hall.back()
                self.assertTrue(same(told_of(hall), before))

    def test_as_the_first_does_that_is_refused(self):
        hall = talk()
        with self.assertRaises(NoHand) as caught:
            hall.all_of((HI, ("fall", "eve"), None, ("hear", "ann", "bob")))
        self.assertEqual(caught.exception.hand, "eve")
        self.assertRaises(NoDeed, hall.all_of, (HI, None, ("fall", "eve")))

    def test_no_row_of_deeds(self):
        hall = talk(deeds=[HI])
        before = told_of(hall)
        many = 1
        for thing in anything() + [(), [HI], HI, {HI: 1}, 0, list(HI), (list(HI),)]:
            with self.subTest(thing=thing), Unchanged(self, thing):
                self.assertRaises(NoDeed, hall.all_of, thing)
            many += 1
            self.assertEqual(hall.counts(), (many, many - 1))
        self.assertTrue(same(told_of(hall), before))


class TestBack(unittest.TestCase):
    def test_deed_by_deed_to_the_begin(self):
        dice = random.Random(1)
        for room in (None, 1, 2):
            hall = talk(room)
            told = [told_of(hall)]
            for _ in range(60):
                hall.do(dice.choice([deed for deed in hall.can_do() if deed[0] != "fall" or dice.random() < 0.1]
                                    or list(hall.can_do())))
                told.append(told_of(hall))
                if not hall.can_do():
                    break
            many = len(told) - 1
            while told:
                self.assertTrue(same(told_of(hall), told.pop()))
                if told:
                    self.assertIsNone(hall.back())
            self.assertRaises(NoDeed, hall.back)
            self.assertEqual(hall.counts(), (2 * many + 1, 1))

    def test_rows_go_back_as_a_whole(self):
        hall = talk(deeds=[HI])
        hall.all_of((HI, HI))
        hall.all_of((("hear", "bob", "ann"),))
        hall.do(("fall", "ann"))
        for many in (4, 3, 1, 0):
            hall.back()
            self.assertEqual(len(hall), many)
        self.assertRaises(NoDeed, hall.back)
        self.assertEqual(hall.counts(), (9, 1))
        self.assertEqual(hall.do(HI), HI)

    def test_what_is_refused_is_nothing_to_take_back(self):
        hall = talk(deeds=[HI])
        for wrong in (("fall", "bob"), None, ("say", "eve", "bob", "hi")):
            self.assertRaises(REFUSALS, hall.do, wrong)
            self.assertRaises(REFUSALS, hall.all_of, (HI, wrong))
        hall.back()
        self.assertEqual((hall.log(), hall.counts()), ((), (8, 6)))


class TestCounts(unittest.TestCase):
    def test_calls_and_refused_ones_of_all_six(self):
        hall = talk(1)
        calls = refused = 0
        for told, asked in (
            (True, lambda: hall.say("ann", "bob", "hi")), (False, lambda: hall.say("ann", "bob", "hi")),
            (False, lambda: hall.say("eve", [], {})), (True, lambda: hall.hear("bob", "ann")),
            (False, lambda: hall.hear("bob", "ann")), (False, lambda: hall.hear(None, None)),
            (True, lambda: hall.fall("ann")), (False, lambda: hall.fall("ann")), (False, lambda: hall.fall([])),
            (True, lambda: hall.do(("fall", "cy"))), (False, lambda: hall.do(())), (False, lambda: hall.do(HI)),
            (True, lambda: hall.all_of((("hear", "bob", "ann"),))), (False, lambda: hall.all_of(())),
            (False, lambda: hall.all_of((HI, HI))), (True, hall.back), (True, hall.back), (True, hall.back),
            (True, hall.back), (True, hall.back), (False, hall.back), (False, hall.back), (True, lambda: hall.do(HI)),
        ):
            calls += 1
            refused += not told
            if told:
                asked()
            else:
                self.assertRaises(REFUSALS, asked)
            self.assertTrue(same(hall.counts(), (calls, refused)))

    def test_what_only_tells_counts_nothing(self):
        hall = talk(1, deeds=[HI])
        told_of(hall)
        hall.twin()
        self.assertRaises(NoHand, hall.road, "eve", "ann")
        self.assertEqual(hall.counts(), (1, 0))


class TestTold(unittest.TestCase):
    def test_what_can_be_done_rises(self):
        told = (("fall", "ann"), ("fall", "cy"), ("hear", "bob", "ann"), HI, ("say", "ann", "cy", "hi"),
                ("say", "bob", "cy", "on"))
        self.assertTrue(same(talk(deeds=[HI]).can_do(), told))
        self.assertEqual(Hall((DONE, ("bob", ((),)))).can_do(), ())
        self.assertEqual(Hall((DONE, ("bob", ((),))), weak=("bob",)).can_do(), (("fall", "bob"),))

    def test_dicts_in_their_orders(self):
        hall = talk(deeds=[("say", "bob", "cy", "on"), HI, ("say", "ann", "cy", "hi")])
        self.assertEqual(list(hall.views()), ["bob", "ann", "cy"])
        self.assertEqual(hall.views()["ann"], (("say", "bob", "hi"), ("say", "cy", "hi")))
        self.assertEqual(list(hall.under_way()), [("ann", "bob"), ("ann", "cy"), ("bob", "cy")])

    def test_no_hand_of_anything(self):
        hall = talk(deeds=[HI])
        for thing in anything() + [(), 0, "dora", ["ann"], ("ann",)]:
            for asked in (hall.state_of, hall.is_done, hall.view_of, lambda one: hall.road(one, one),
                          lambda one: hall.road("ann", one), lambda one: hall.road(one, "ann")):
                with self.subTest(thing=thing), Unchanged(self, thing):
                    with self.assertRaises(NoHand) as caught:
                        asked(thing)
                    self.assertTrue(same(caught.exception.hand, thing))
        with self.assertRaises(NoHand) as caught:
            hall.road("bob", "bob")
        self.assertEqual(caught.exception.hand, "bob")

    def test_what_was_told_is_the_askers_own(self):
        hall = talk(deeds=[HI, ("fall", "ann")])
        before = told_of(hall)
        for told in (hall.views(), hall.under_way()):
            told.clear()
            told["eve"] = ()
        self.assertTrue(same(told_of(hall), before))
        self.assertTrue(same(told_of(hall), before))

    def test_texts(self):
        hall = talk(deeds=[HI, ("hear", "bob", "ann"), ("fall", "ann"), ("hear", "bob", "ann")])
        self.assertEqual(str(hall), "ann>bob:hi bob<ann:hi ann! bob<ann:!")
        self.assertEqual(repr(hall), "Hall(3 hands, 4 deeds)")
        self.assertEqual((len(hall), len(talk())), (4, 0))
        self.assertEqual((str(talk()), repr(Hall((DONE, ("bob", ((),)))))), ("", "Hall(2 hands, 0 deeds)"))

    def test_alike(self):
        deeds = [HI, ("hear", "bob", "ann")]
        hall = talk(1, deeds=deeds)
        self.assertTrue(hall == talk(1, deeds=deeds))
        self.assertFalse(hall != talk(1, deeds=deeds))
        other = talk(1)
        other.all_of(tuple(deeds))
        self.assertTrue(hall == other)
        for other in (talk(2, deeds=deeds), talk(1, ("ann",), deeds), talk(1, deeds=deeds[:1]), Hall(TALK, room=1),
                      Hall(TALK[::-1], room=1, weak=WEAK), talk(1, deeds=deeds + [HI])):
            self.assertFalse(hall == other)
            self.assertTrue(hall != other)
        turned = hall_behind(TALK[::-1], hall.log(), room=1, weak=WEAK)
        self.assertFalse(hall == turned)
        for thing in anything() + [(), 0, TALK, hall.log(), str(hall)]:
            self.assertIs(hall == thing, False)
            self.assertIs(hall != thing, True)
        # The order of the log parts halls that stand alike.
        one = talk(deeds=[HI, ("say", "bob", "cy", "on")])
        two = talk(deeds=[("say", "bob", "cy", "on"), HI])
        self.assertFalse(one == two)

    def test_twins(self):
        hall = talk(1, deeds=[HI])
        hall.all_of((("hear", "bob", "ann"), HI, ("fall", "ann")))
        self.assertRaises(NoDeed, hall.fall, "bob")
        twin = hall.twin()
        self.assertIs(type(twin), Hall)
        self.assertTrue(twin == hall)
        self.assertTrue(same(told_of(twin), told_of(hall)))
        self.assertEqual((hall.counts(), twin.counts()), ((3, 1), (0, 0)))
        before = told_of(hall)
        twin.back()
        self.assertEqual(twin.log(), (HI,))
        twin.back()
        self.assertRaises(NoDeed, twin.back)
        twin.do(("say", "ann", "cy", "hi"))
        self.assertTrue(same(told_of(hall), before))
        self.assertEqual((hall.counts(), twin.counts()), ((3, 1), (4, 1)))
        third = hall.twin()
        hall.back()
        self.assertEqual((len(hall), len(third)), (1, 4))


class TestLogs(unittest.TestCase):
    def some_logs(self):
        dice = random.Random(3)
        for room, weak in ((None, WEAK), (1, WEAK), (2, ("ann", "bob", "cy"))):
            for _ in range(8):
                hall = Hall(TALK, room=room, weak=weak)
                for _ in range(dice.randint(0, 12)):
                    deeds = [deed for deed in hall.can_do() if deed[0] != "fall" or dice.random() < 0.2]
                    if deeds:
                        hall.do(dice.choice(deeds))
                yield hall

    def test_logs_that_a_hall_has(self):
        for hall in self.some_logs():
            asked = dict(room=hall.room, weak=hall.weak)
            with Unchanged(self, TALK, hall.log()):
                other = hall_behind(TALK, hall.log(), **asked)
                self.assertTrue(other == hall)
                self.assertTrue(same(told_of(other), told_of(hall)))
                self.assertEqual(other.counts(), (0, 0))
                self.assertIsNone(fault_in(TALK, hall.log(), **asked))
            for many in range(len(hall), 0, -1):
                self.assertEqual(len(other), many)
                other.back()
            self.assertRaises(NoDeed, other.back)

    def test_logs_with_one_thing_otherwise(self):
        wrong = ["ann", "bob", "cy", "eve", "hi", "on", "yes", "!", "say", "hear", "fall", None, True, 0, [], (), {}]
        for hall in self.some_logs():
            log = hall.log()
            for thing in wrong:
                for broken in with_one_otherwise(log, thing):
                    self.looked_at(hall, broken)
            for broken in with_one_listed(log):
                self.looked_at(hall, broken)
            for at in range(len(log)):
                self.looked_at(hall, log[:at] + log[at + 1:])
                self.looked_at(hall, log[:at] + log[at:at + 1] + log[at:])
                self.looked_at(hall, log[:at] + log[at + 1:at + 2] + log[at:at + 1] + log[at + 2:])

    def looked_at(self, hall, log):
        """A changed log is looked at row by row, slowly."""
        slow = SlowHall(TALK, hall.room, hall.weak)
        number = 0 if not isinstance(log, tuple) else None
        for at, row in enumerate(log if isinstance(log, tuple) else ()):
            lengths = {"say": 4, "hear": 4, "fall": 2}
            is_row = isinstance(row, tuple) and row and isinstance(row[0], str) and lengths.get(row[0]) == len(row)
            if not is_row or not same(slow.look(row[:3] if row[0] == "hear" else row), row):
                number = at
                break
            slow.log.append(row)
        asked = dict(room=hall.room, weak=hall.weak)
        self.assertTrue(same(fault_in(TALK, log, **asked), number), (log, number))
        if number is None:
            self.assertEqual(hall_behind(TALK, log, **asked).log(), log)
        else:
            self.assertRaises(NoRow, hall_behind, TALK, log, **asked)

    def test_no_log_of_anything(self):
        for thing in anything() + [0, 1, HI, [HI], (list(HI),), ("hear", "bob", "ann"), {HI: 1}]:
            with self.subTest(thing=thing), Unchanged(self, thing):
                self.assertTrue(same(fault_in(TALK, thing), 0))
                self.assertRaises(NoRow, hall_behind, TALK, thing)
        self.assertEqual(fault_in(TALK, (HI, None)), 1)
        self.assertEqual(fault_in(TALK, (HI, ("hear", "bob", "ann"))), 1)
        self.assertEqual(fault_in(TALK, (HI, ("fall", "ann"))), 1)
        self.assertIsNone(fault_in(TALK, ()))
        self.assertEqual(fault_in(TALK, (HI, HI), room=1), 1)
        self.assertIsNone(fault_in(log=(HI, HI), ends=TALK, weak=(), room=2))
        self.assertEqual(len(hall_behind(log=(HI, HI), ends=TALK, weak=(), room=2)), 2)

    def test_refused_as_a_hall(self):
        for asked in (hall_behind, fault_in):
            for thing in anything() + no_ends():
                self.assertRaises(NoEnds, asked, thing, None, room=0, weak=None)
            for thing in (0, 10, True, "1", [1]):
                self.assertRaises(NoRoom, asked, TALK, None, room=thing, weak=None)
            for thing in (None, ("eve",), ["ann"], ("bob", "ann")):
                with self.assertRaises(NoHand) as caught:
                    asked(TALK, None, weak=thing)
                self.assertTrue(same(caught.exception.hand, thing))
            self.assertRaises(TypeError, asked, TALK, (), 1)


class TestAsSlowlyWorkedOut(unittest.TestCase):
    def test_thrown_deeds_in_thrown_halls(self):
        dice = random.Random(11)
        hands = ["ann", "bob", "cy"]
        for _ in range(60):
            others = {hand: tuple(other for other in hands if other != hand) for hand in hands}
            ends = tuple(thrown_end(dice, 4, hand, others[hand]) for hand in hands)
            weak = tuple(hand for hand in hands if dice.random() < 0.5)
            room = dice.choice([None, 1, 1, 2])
            self.follow(dice, Hall(ends, room=room, weak=weak), SlowHall(ends, room, weak), 25)

    def test_made_ends_of_six(self):
        dice = random.Random(12)
        for board in (SIX, ROUND, GONE, renamed(GONE, LIKE_DEEDS), renamed(SIX, LIKE_HANDS)):
            ends = tuple(made_end(board, hand) for hand in board[0])
            for room in (1, 9, None):
                self.follow(dice, Hall(ends, room=room, weak=board[1]), SlowHall(ends, room, board[1]), 40)

    def follow(self, dice, hall, slow, many):
        for _ in range(many):
            roll = dice.random()
            slow.calls += 1
            if roll < 0.1:
                self.back(hall, slow)
            else:
                as_row = roll > 0.85
                deeds = tuple(self.deed(dice, slow) for _ in range(dice.randint(1, 3) if as_row else 1))
                self.one(hall, slow, deeds, as_row)
            self.assertEqual(hall.counts(), (slow.calls, slow.refused))
            self.alike(hall, slow)

    def deed(self, dice, slow):
        can = slow.can_do()
        if can and dice.random() < 0.7:
            return dice.choice([deed for deed in can if deed[0] != "fall" or dice.random() < 0.2] or can)
        one, two = dice.choice(slow.hands + ["eve"]), dice.choice(slow.hands)
        said = ("say", one, two, dice.choice(["hi", "no"]))
        return dice.choice([said, ("hear", one, two), ("fall", one), (one, two)])

    def back(self, hall, slow):
        if slow.marks:
            hall.back()
            del slow.log[slow.marks.pop():]
        else:
            self.assertRaises(NoDeed, hall.back)
            slow.refused += 1

    def one(self, hall, slow, deeds, as_row):
        told = slow.do(deeds)
        asked = (lambda: hall.all_of(deeds)) if as_row else (lambda: (hall.do(deeds[0]),))
        if isinstance(told, tuple) and isinstance(told[0], type):
            slow.refused += 1
            with self.assertRaises(told[0]) as caught:
                asked()
            self.assertIs(type(caught.exception), told[0])
            self.assertEqual(bears(caught.exception), told[1])
        else:
            self.assertTrue(same(asked(), told))

    def alike(self, hall, slow):
        self.assertEqual(hall.log(), tuple(slow.log))
        self.assertEqual(hall.can_do(), slow.can_do())
        self.assertEqual(hall.fallen(), slow.fallen())
        for one in slow.hands:
            self.assertEqual((hall.state_of(one), hall.view_of(one)), (slow.state(one), slow.view(one)))
            for two in slow.hands:
                if one != two:
                    self.assertEqual(hall.road(one, two), slow.road(one, two))

    def test_deeds_of_unlike_hands_in_either_order(self):
        dice = random.Random(13)
        for board in [board for board in made_up_boards(60, 3) if is_let(board)][:15] + [GONE, ROUND] + LET[3:5]:
            hall = Hall(made(board)[1], room=dice.choice([1, 2, None]), weak=board[1])
            for _ in range(8):
                can = hall.can_do()
                for one in can:
                    for two in can:
                        if one[1] != two[1]:
                            self.either_order(hall, one, two)
                deeds = [deed for deed in can if deed[0] != "fall" or dice.random() < 0.2]
                if not deeds:
                    break
                hall.do(dice.choice(deeds))

    def either_order(self, hall, one, two):
        there, back = hall.twin(), hall.twin()
        there.all_of((one, two))
        back.all_of((two, one))
        self.assertEqual(sorted(there.log()), sorted(back.log()))
        for told in ("can_do", "fallen", "under_way", "views"):
            self.assertEqual(getattr(there, told)(), getattr(back, told)())


if __name__ == "__main__":
    unittest.main()
