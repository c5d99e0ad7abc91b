"""All stands walked (9.1 to 9.4), and the interface's part sayloom/stands.py."""

import random
import unittest

from sayloom.errors import NoDeed, NoEnds, NoHand, NoPlace, NoRoom, TooWide
from sayloom.halls import Hall
from sayloom.making import is_let, made
from sayloom.stands import (
    awaited, begin_stand, deeds_at, is_stand, many_stands, shows_run, shows_walked, stand_behind, stand_of, walked,
)
from tests.kinds import GONE, LET, ROUND, SIX
from tests.machines import thrown_end
from tests.samples import PAIR, Unchanged, anything, crowd, made_up_boards, same, with_one_listed, with_one_otherwise
from tests.slow_stands import (
    is_slow_run_to_fault, is_slow_sound, is_slow_stand, is_slow_table, slow_begin, slow_numbers, slow_steps, slow_walk,
)
from tests.test_ends import no_ends
from tests.test_halls import TALK, WEAK

# bob waits for cy's word for ever, cy for bob's; ann is done.
STUCK_TWO = (
    ("ann", ((),)),
    ("bob", ((("hear", "cy", "hi", 1),), ())),
    ("cy", ((("hear", "ann", "no", 1), ("hear", "bob", "hi", 1)), ())),
)
# bob waits for ever while ann and cy go round.
STUCK_ONE = (
    ("ann", ((("say", "cy", "hi", 1),), (("hear", "cy", "hi", 0),))),
    ("bob", ((("hear", "ann", "hi", 0),),)),
    ("cy", ((("hear", "ann", "hi", 1),), (("say", "ann", "hi", 0),))),
)
# bob is done ahead of hearing what ann says.
LEFT_ONE = (("ann", ((("say", "bob", "hi", 1),), ())), ("bob", ((),)))
# Sound, but where ann falls: then cy waits for bob, who was told nothing.
BUT_FOR_FALLS = (
    ("ann", ((("say", "bob", "go", 1),), ())),
    ("bob", ((("hear", "ann", "!", 1), ("hear", "ann", "go", 2)), (), (("say", "cy", "go", 1),))),
    ("cy", ((("hear", "bob", "go", 1),), ())),
)
HALLS = [
    (made(PAIR)[1], ()), (made(GONE)[1], ("ann",)), (made(ROUND)[1], ("ann", "bob")), (STUCK_TWO, ("ann",)),
    (STUCK_ONE, ()), (LEFT_ONE, ()), (LEFT_ONE, ("bob",)), (BUT_FOR_FALLS, ()), (BUT_FOR_FALLS, ("ann",)),
]


def thrown_halls(many, seed):
    dice = random.Random(seed)
    hands = ("ann", "bob", "cy")
    for _ in range(many):
        names = hands[:dice.randint(2, 3)]
        ends = tuple(
            thrown_end(dice, 3, hand, tuple(other for other in names if other != hand), ("hi", "no")) for hand in names
        )
        yield ends, tuple(hand for hand in names if dice.random() < 0.3)


class TestStands(unittest.TestCase):
    def test_the_begin(self):
        self.assertEqual(begin_stand(TALK), ((0, 0, 0), ()))
        self.assertEqual(begin_stand(ends=made(SIX)[1]), ((0,) * 6, ()))
        self.assertTrue(is_stand(TALK, begin_stand(TALK)))

    def test_the_stand_of_a_hall(self):
        hall = Hall(TALK, weak=WEAK)
        for deed in (("say", "ann", "bob", "hi"), ("say", "ann", "bob", "hi"), ("say", "ann", "cy", "hi")):
            hall.do(deed)
        told = stand_of(hall)
        self.assertEqual(told, ((0, 0, 0), (("ann", "bob", ("hi", "hi")), ("ann", "cy", ("hi",)))))
        self.assertFalse(is_stand(TALK, told, weak=WEAK))
        self.assertTrue(is_stand(TALK, told, room=2, weak=WEAK))
        hall.fall("ann")
        told = stand_of(hall=hall)
        self.assertEqual(told, ((0, -1, 0), (("ann", "bob", ("hi", "hi", "!")), ("ann", "cy", ("hi", "!")))))
        self.assertTrue(is_stand(TALK, told, room=2, weak=WEAK))
        self.assertFalse(is_stand(TALK, told, room=2, weak=("cy",)))
        hall.fall("cy")
        self.assertEqual(stand_of(hall), ((0, -1, -1), (("ann", "bob", ("hi", "hi", "!")), ("cy", "bob", ("!",)))))
        hall.say("bob", "cy", "on")
        self.assertEqual(stand_of(hall)[1][-1], ("cy", "bob", ("!",)))

    def test_what_is_a_stand(self):
        good = ((0, -1, 1), (("ann", "bob", ("hi", "!")), ("ann", "cy", ("!",)), ("cy", "bob", ("on",))))
        self.assertIs(is_stand(TALK, good, weak=WEAK), True)
        # Names that no end knows may be under way.
        self.assertIs(is_stand(TALK, ((0, 0, 0), (("bob", "ann", ("zz",)),))), True)
        for thing in (
            good[:1], good + ((),), (good[0][:2], good[1]), (good[0] + (0,), good[1]), ((0, -2, 1), ()),
            ((2, 0, 0), ()), ((0, 0, True), ()), ((0, False, 0), ()), ((0, 0, 2), ()), ((-1, 0, 0), ()),
            (good[0], good[1][::-1]), (good[0], good[1] + good[1][-1:]), ((0, 0, 0), (("ann", "bob", ("!",)),)),
            ((0, -1, 0), (("ann", "bob", ("hi",)),)), ((0, -1, 0), (("ann", "bob", ("!", "hi")),)),
            ((0, -1, 0), (("ann", "bob", ("!", "!")),)), ((0, -1, 0), (("bob", "ann", ("hi",)),)),
            ((0, 0, 0), (("ann", "bob", ()),)), ((0, 0, 0), (("ann", "ann", ("hi",)),)),
            ((0, 0, 0), (("ann", "eve", ("hi",)),)), ((0, 0, 0), (("ann", "bob", ("hi", "hi")),)),
            ((0, 0, 0), (("ann", "bob", ("Hi",)),)), ((0, 0, 0), (("ann", "bob", "hi"),)),
            ((0, -1, -1), (("ann", "cy", ("!",)),)), ((0, 0, 0), (("ann", "bob"),)), ((0, 0, 0), ("ann",)),
        ):
            with self.subTest(thing=thing):
                self.assertIs(is_stand(TALK, thing, weak=WEAK), False)
                self.assertFalse(is_slow_stand(TALK, 1, WEAK, thing))
                self.assertRaises(NoPlace, deeds_at, TALK, thing, weak=WEAK)

    def test_one_thing_otherwise(self):
        good = ((0, -1, 1), (("ann", "bob", ("hi", "!")), ("ann", "cy", ("!",)), ("cy", "bob", ("on",))))
        for other in anything() + [1, 2, -1, "ann", "bob", "cy", "!", "hi", ("!",), ("hi", "!")]:
            for thing in with_one_otherwise(good, other):
                told = is_slow_stand(TALK, 1, WEAK, thing)
                self.assertIs(is_stand(TALK, thing, weak=WEAK), told, thing)
        for thing in with_one_listed(good):
            self.assertIs(is_stand(TALK, thing=thing, room=1, weak=WEAK), False)

    def test_room(self):
        for room in range(1, 10):
            for many in range(1, 11):
                stand = ((0, -1, 0), (("ann", "bob", ("hi",) * many + ("!",)), ("bob", "cy", ("no",) * many)))
                self.assertIs(is_stand(TALK, stand, room=room, weak=WEAK), many <= room)

    def test_deeds_and_what_comes_of_them(self):
        dice = random.Random(5)
        for ends, weak in [(TALK, WEAK)] + HALLS + list(thrown_halls(60, 3)):
            room = dice.choice([1, 2, 9])
            stand = begin_stand(ends)
            for _ in range(15):
                steps = slow_steps(ends, room, weak, stand)
                with Unchanged(self, ends, stand, weak):
                    deeds = deeds_at(ends, stand, room=room, weak=weak)
                    self.assertEqual(deeds, tuple(sorted(steps)))
                for deed in deeds:
                    then = stand_behind(ends, stand, deed, room=room, weak=weak)
                    self.assertTrue(same(then, steps[deed]))
                    self.assertTrue(is_stand(ends, then, room=room, weak=weak))
                if not deeds:
                    break
                stand = steps[dice.choice(deeds)]

    def test_a_hall_goes_as_its_stand(self):
        for room in (1, 3, 9):
            hall = Hall(TALK, room=room, weak=WEAK)
            dice = random.Random(room)
            for _ in range(40):
                stand = stand_of(hall)
                self.assertTrue(is_stand(TALK, stand, room=room, weak=WEAK))
                deeds = deeds_at(TALK, stand, room=room, weak=WEAK)
                self.assertEqual(deeds, hall.can_do())
                if not deeds:
                    break
                deed = dice.choice([deed for deed in deeds if deed[0] != "fall" or dice.random() < 0.1] or list(deeds))
                hall.do(deed)
                self.assertEqual(stand_of(hall), stand_behind(TALK, stand, deed, room=room, weak=WEAK))

    def test_what_is_no_deed_there(self):
        stand = begin_stand(TALK)
        for deed in anything() + [
            ("fall", "bob"), ("hear", "bob", "ann"), ("say", "ann", "bob", "no"), ["fall", "ann"], ("fall",),
            ("say", "ann", "bob", "hi", 0), ("hear", "bob", "ann", "hi"), ("say", ["ann"], "bob", "hi"),
        ]:
            with self.subTest(deed=deed):
                self.assertRaises(NoDeed, stand_behind, TALK, stand, deed, weak=WEAK)

    def test_awaited(self):
        self.assertEqual(awaited(TALK, begin_stand(TALK), hand="bob"), ("ann", "cy"))
        self.assertEqual(awaited(TALK, ((1, 1, 1), ()), hand="ann"), ())
        self.assertEqual(awaited(TALK, ((1, 1, 1), ()), hand="cy"), ("ann",))
        self.assertEqual(awaited(TALK, ((0, -1, 0), ()), hand="ann", room=2, weak=WEAK), ())
        self.assertEqual(awaited(TALK, ((0, 0, -1), ()), hand="cy", weak=WEAK), ())
        for hand in anything():
            with self.assertRaises(NoHand) as caught:
                awaited(TALK, begin_stand(TALK), hand=hand)
            self.assertTrue(same(caught.exception.hand, hand))


class TestRefusals(unittest.TestCase):
    CALLS = [
        lambda ends, stand, **more: is_stand(ends, stand, **more),
        lambda ends, stand, **more: deeds_at(ends, stand, **more),
        lambda ends, stand, **more: stand_behind(ends, stand, None, **more),
        lambda ends, stand, **more: awaited(ends, stand, hand=None, **more),
        lambda ends, stand, **more: walked(ends, **more),
        lambda ends, stand, **more: many_stands(ends, **more),
        lambda ends, stand, **more: shows_walked(ends, stand, **more),
        lambda ends, stand, **more: shows_run(ends, stand, **more),
    ]

    def test_their_order(self):
        for call in self.CALLS:
            for ends in anything() + [TALK[:1], TALK[:2]]:
                self.assertRaises(NoEnds, call, ends, None, room=0, weak=None)
            for room in [0, 10, -1, None, True, "1", [1], (1,), 10 ** 39]:
                self.assertRaises(NoRoom, call, TALK, None, room=room, weak=None)
            for weak in [None, ["ann"], ("eve",), ("cy", "ann"), ("ann", "ann"), "ann", (None,), ([],), {}]:
                with self.assertRaises(NoHand) as caught:
                    call(TALK, None, room=9, weak=weak)
                self.assertTrue(same(caught.exception.hand, weak))
        for call in self.CALLS[1:4]:
            for stand in anything() + no_ends():
                with self.assertRaises(NoPlace) as caught:
                    call(TALK, stand)
                self.assertTrue(same(caught.exception.place, stand))
        for ends in anything():
            self.assertRaises(NoEnds, begin_stand, ends)

    def test_false_of_anything(self):
        for thing in anything() + no_ends():
            with self.subTest(thing=thing), Unchanged(self, thing):
                self.assertIs(is_stand(TALK, thing), False)
                self.assertIs(shows_walked(TALK, thing), False)
                self.assertIs(shows_run(TALK, thing), False)
                for word in ("sound", "faulty"):
                    self.assertIs(shows_walked(TALK, (word, thing)), False)


class TestWalked(unittest.TestCase):
    def test_small_ones(self):
        self.assertEqual(walked(made(PAIR)[1]), ("sound", (
            (((0, 0), ()), (1, 2)), (((1, 0), (("ann", "bob", ("hi",)),)), (0, 1)), (((1, 1), ()), (0, 0)),
        )))
        self.assertEqual(walked(STUCK_TWO), ("faulty", ((), ("waits", "bob", ("cy",), (((0, 0, 0), ()),)))))
        self.assertEqual(walked(LEFT_ONE), ("faulty", ((("say", "ann", "bob", "hi"),), ("left", "ann", "bob"))))
        kind, (deeds, fault) = walked(ends=STUCK_ONE, room=1, weak=(), most=1000)
        self.assertEqual((kind, deeds, fault[:3]), ("faulty", (), ("waits", "bob", ("ann",))))
        self.assertEqual(len(fault[3]), many_stands(STUCK_ONE))

    def test_falls_may_be_the_fault(self):
        self.assertEqual(walked(BUT_FOR_FALLS)[0], "sound")
        kind, (deeds, fault) = walked(BUT_FOR_FALLS, weak=("ann",))
        self.assertEqual((kind, fault[:3]), ("faulty", ("waits", "cy", ("bob",))))
        self.assertIn(("fall", "ann"), deeds)
        self.assertNotIn(("hear", "bob", "ann"), deeds[:-1])

    def test_as_the_slow_ones(self):
        for ends, weak in HALLS + list(thrown_halls(120, 8)):
            for room in (1, 2):
                walk = slow_walk(ends, room, weak)
                told = walked(ends, room=room, weak=weak, most=len(walk))
                self.assertEqual(many_stands(ends, room=room, weak=weak, most=len(walk)), len(walk))
                self.assertTrue(shows_walked(ends, told, room=room, weak=weak))
                self.assertTrue(same(told, walked(ends, room=room, weak=weak, most=len(walk))))
                if told[0] == "sound":
                    self.assertTrue(same(dict(told[1]), {stand: slow_numbers(ends, walk)[stand] for stand in sorted(walk)}))
                    self.assertTrue(is_slow_table(ends, room, weak, told[1]))
                    self.assertIs(shows_run(ends, told[1], room=room, weak=weak), False)
                else:
                    self.assertFalse(is_slow_sound(ends, room, weak))
                    self.assertTrue(is_slow_run_to_fault(ends, room, weak, told[1]))
                    self.assertIs(shows_run(ends, told[1], room=room, weak=weak), True)
                    self.check_stands_are_just_those(ends, room, weak, told[1])

    def check_stands_are_just_those(self, ends, room, weak, run):
        if run[1][0] != "waits":
            return
        stand = slow_begin(ends)
        for deed in run[0]:
            stand = slow_steps(ends, room, weak, stand)[deed]
        found = [stand]
        for at in found:
            steps = slow_steps(ends, room, weak, at)
            found.extend(then for deed, then in steps.items() if deed[0] != "fall" and then not in found)
        self.assertEqual(run[1][3], tuple(sorted(set(found))))

    def test_made_ends_of_let_boards_are_sound(self):
        for board in [board for board in made_up_boards(60, 21) if is_let(board)] + LET:
            for room in (1, 2, 3):
                told = walked(made(board)[1], room=room, weak=board[1], most=5000)
                self.assertEqual(told[0], "sound")
                self.assertTrue(shows_walked(made(board)[1], told, room=room, weak=board[1]))
        self.assertEqual(walked(made(crowd(6))[1], room=9)[0], "sound")

    def test_most(self):
        for ends, weak in HALLS:
            many = many_stands(ends, weak=weak, most=len(slow_walk(ends, 1, weak)))
            self.assertEqual(many, len(slow_walk(ends, 1, weak)))
            walked(ends, weak=weak, most=many)
            if many > 1:
                self.assertRaises(TooWide, walked, ends, weak=weak, most=many - 1)
                self.assertRaises(TooWide, many_stands, ends, weak=weak, most=many - 1)
        self.assertEqual(many_stands(STUCK_TWO, most=1), 1)
        # Faulty from the begin on, and more than a thousand stands.
        wide = (("ann", ((("say", "bob", "hi", 0), ("say", "bob", "no", 0)),)), ("bob", ((("hear", "ann", "yes", 0),),)))
        self.assertRaises(TooWide, walked, wide, room=9)
        self.assertRaises(TooWide, many_stands, wide, room=9)
        self.assertEqual(many_stands(wide, room=8), 511)
        self.assertEqual(many_stands(wide, room=9, most=1023), 1023)
        self.assertRaises(TooWide, walked, wide, room=9, most=1022)
        self.assertEqual(walked(wide, room=9, most=1023)[0], "faulty")


class TestShows(unittest.TestCase):
    def test_tables_with_something_otherwise(self):
        for ends, weak in HALLS[:3] + [HALLS[7]]:
            kind, table = walked(ends, weak=weak)
            self.assertEqual(kind, "sound")
            for thing in table_changes(table):
                told = is_slow_table(ends, 1, weak, thing)
                self.assertIs(shows_walked(ends, ("sound", thing), weak=weak), told)
            for thing in with_one_listed(("sound", table)):
                self.assertFalse(shows_walked(ends, thing, weak=weak))
            self.assertFalse(shows_walked(ends, ("faulty", table), weak=weak))
            self.assertFalse(shows_walked(ends, ("sound", table, ()), weak=weak))

    def test_greater_numbers(self):
        ends, weak = HALLS[2]
        _, table = walked(ends, weak=weak)
        greater = tuple((stand, tuple(number * 10 ** 38 for number in numbers)) for stand, numbers in table)
        self.assertTrue(shows_walked(ends, ("sound", greater), weak=weak))
        more = tuple((stand, tuple(number + 1 for number in numbers)) for stand, numbers in table)
        self.assertFalse(shows_walked(ends, ("sound", more), weak=weak))

    def test_stands_more(self):
        ends = made(PAIR)[1]
        _, table = walked(ends)
        # It can be, but never comes.
        more = (((0, 1), ()), (1, 0))
        self.assertFalse(shows_walked(ends, ("sound", tuple(sorted(table + (more,))))))
        last = (((1, 1), (("ann", "bob", ("hi",)),)), (0, 0))
        self.assertFalse(shows_walked(ends, ("sound", tuple(sorted(table + (more, last))))))
        # A word that ann never says is left behind her fall: it can be, never comes, and is right.
        ends = made(GONE)[1]
        _, table = walked(ends, weak=("ann",))
        still = [[at for at, state in enumerate(states) if not state][0] for _, states in ends]
        more = (((-1, still[1], still[2]), (("ann", "bob", ("zz", "!")),)), (0, 0, 0))
        self.assertNotIn(more[0], dict(table))
        self.assertTrue(shows_walked(ends, ("sound", tuple(sorted(table + (more,)))), weak=("ann",)))
        self.assertFalse(shows_walked(ends, ("sound", tuple(sorted(table + ((more[0], (0, 1, 0)),)))), weak=("ann",)))
        for at in range(len(table)):
            self.assertFalse(shows_walked(ends, ("sound", table[:at] + table[at + 1:]), weak=("ann",)))

    def test_thrown_tables(self):
        dice = random.Random(31)
        seen = set()
        for ends, weak in thrown_halls(150, 14):
            walk = slow_walk(ends, 1, weak)
            numbers = slow_numbers(ends, walk)
            table = tuple((stand, tuple(number or 0 for number in numbers[stand])) for stand in sorted(walk))
            for thing in [table] + [dice.choice(list(table_changes(table))) for _ in range(3)]:
                told = is_slow_table(ends, 1, weak, thing)
                seen.add(told)
                self.assertIs(shows_walked(ends, ("sound", thing), weak=weak), told)
        self.assertEqual(seen, {True, False})

    def test_runs_with_something_otherwise(self):
        for ends, weak in [HALLS[3], HALLS[4], HALLS[5], HALLS[8]]:
            kind, run = walked(ends, weak=weak)
            self.assertEqual(kind, "faulty")
            odd = [None, True, 0, 1, "ann", "bob", "cy", "waits", "left", "hi", (), [], ("bob",), ("ann", "cy"),
                   ("fall", "ann"), {}]
            things = [thing for other in odd for thing in with_one_otherwise(run, other)]
            things += [(run[0][:-1], run[1]), (run[0] + run[0], run[1]), run[::-1], run + ((),), run[:1]]
            if run[1][0] == "waits":
                stands = run[1][3]
                for changed in (stands[1:], stands[:-1], stands + stands[-1:], stands[::-1], ()):
                    things.append((run[0], run[1][:3] + (changed,)))
                for hand in ("ann", "bob", "cy"):
                    for others in ((), ("ann",), ("bob",), ("cy",), ("ann", "bob"), ("ann", "cy"), ["ann"]):
                        things.append((run[0], ("waits", hand, others, stands)))
            for hand in ("ann", "bob", "cy"):
                for other in ("ann", "bob", "cy", "eve"):
                    things.append((run[0], ("left", hand, other)))
            for thing in things + list(with_one_listed(run)):
                told = is_slow_run_to_fault(ends, 1, weak, thing)
                self.assertIs(shows_run(ends, thing, weak=weak), told, thing)
                self.assertIs(shows_walked(ends, ("faulty", thing), weak=weak), told, thing)

    def test_more_stands_may_wait(self):
        run = ((), ("waits", "bob", ("ann",), walked(STUCK_ONE)[1][1][3]))
        self.assertTrue(shows_run(STUCK_ONE, run))
        # A stand that never comes, with all that comes behind it.
        stand = ((1, 0, 0), ())
        self.assertNotIn(stand, run[1][3])
        self.assertTrue(shows_run(STUCK_ONE, ((), run[1][:3] + (tuple(sorted(run[1][3] + (stand,))),))))
        # Deeds that go round first, to another of these stands.
        deeds = (("say", "ann", "cy", "hi"), ("hear", "cy", "ann"))
        self.assertTrue(shows_run(STUCK_ONE, (deeds, run[1])))
        self.assertFalse(shows_run(STUCK_ONE, (deeds, ("waits", "ann", ("cy",), run[1][3]))))

    def test_what_is_left_is_of_two_that_live(self):
        ends = (("ann", ((("say", "bob", "hi", 1),), ())), ("bob", ((),)), ("cy", ((),)))
        said = (("say", "ann", "bob", "hi"),)
        self.assertTrue(shows_run(ends, (said, ("left", "ann", "bob")), weak=("ann", "bob")))
        self.assertFalse(shows_run(ends, (said, ("left", "bob", "ann")), weak=("ann", "bob")))
        self.assertFalse(shows_run(ends, ((), ("left", "ann", "bob")), weak=("ann", "bob")))
        for hand in ("ann", "bob"):
            self.assertFalse(shows_run(ends, (said + (("fall", hand),), ("left", "ann", "bob")), weak=("ann", "bob")))
        # The fault of one that fell is left, but it lives no more.
        fell = said + (("fall", "cy"),)
        self.assertTrue(shows_run(ends, (fell, ("left", "ann", "bob")), weak=("cy",)))
        self.assertFalse(shows_run(ends, (fell, ("left", "cy", "bob")), weak=("cy",)))
        self.assertFalse(shows_run(ends, (fell, ("left", "ann", "ann")), weak=("cy",)))
        # Some hand goes on.
        self.assertFalse(shows_run(BUT_FOR_FALLS, ((("say", "ann", "bob", "go"),), ("left", "ann", "bob"))))

    def test_just_these_two_words(self):
        run = walked(STUCK_TWO)[1]
        self.assertTrue(shows_walked(STUCK_TWO, ("faulty", run)))
        table = walked(made(PAIR)[1])[1]
        for word in ("sound", "Faulty", "", None, True, [], ("faulty",), "waits"):
            self.assertFalse(shows_walked(STUCK_TWO, (word, run)))
        for word in ("faulty", "Sound", "", None, True, [], ("sound",), "made"):
            self.assertFalse(shows_walked(made(PAIR)[1], (word, table)))


def table_changes(table):
    """Tables with a stand out, twice, or with a number otherwise."""
    for at, (stand, numbers) in enumerate(table):
        yield table[:at] + table[at + 1:]
        yield table[:at] + (table[at],) + table[at:]
        for where, number in enumerate(numbers):
            for other in (0, 1, number + 1, number - 1, number + 9, -1, True, False, None, str(number), 10 ** 39):
                yield table[:at] + ((stand, numbers[:where] + (other,) + numbers[where + 1:]),) + table[at + 1:]
        yield table[:at] + ((stand, numbers[:-1]),) + table[at + 1:]
        yield table[:at] + ((stand, numbers, ()),) + table[at + 1:]
        yield table[:at] + (((stand[0], stand[1][1:]), numbers),) + table[at + 1:]
    yield table[::-1] + ((),)
    yield ()


if __name__ == "__main__":
    unittest.main()
