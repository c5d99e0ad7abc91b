"""Editions (12.1 to 12.4), and the interface's part sayloom/editions.py."""

import itertools
import random
import unittest

from sayloom.editions import (
    are_editions, come_to, meets, mix_ends, mix_weak, order_of, shows_meets, shows_order,
)
from sayloom.errors import NoBoard, NoEnds, NoPlace, NoRoom, TooWide
from sayloom.made import made_end
from sayloom.making import is_let, made
from sayloom.stands import many_stands, shows_walked, walked
from sayloom.texts import read_talk
from tests.kinds import ALONE, GONE, TOO_WIDE
from tests.samples import PAIR, Unchanged, anything, made_up_boards, same, with_one_listed, with_one_otherwise
from tests.slow_looks import is_slow_board
from tests.slow_stands import is_slow_run_to_fault, is_slow_sound, is_slow_table
from tests.talks_of_editions import ALL, ASKING_FOUR, ASKING_TWO, COMING, FALLING_TWO, MORE, SAME, asking


def thrown_editions(many, seed):
    """Rows of let boards of the same hands."""
    dice = random.Random(seed)
    kinds = {}
    for board in made_up_boards(500, seed):
        if is_let(board) and len(board[2]) < 6:
            kinds.setdefault(board[0], []).append(board)
    while many:
        boards = dice.choice([some for some in kinds.values() if len(some) > 3])
        editions = tuple(dice.sample(boards, dice.choice([2, 2, 2, 3])))
        if are_narrow(editions):
            many -= 1
            yield editions


def are_narrow(editions):
    """Whether of no mix too many stands come for slow looks."""
    for mix in itertools.product(range(len(editions)), repeat=len(editions[0][0])):
        try:
            many_stands(slow_ends(editions, mix), room=2, weak=slow_weak(editions, mix), most=90)
        except TooWide:
            return False
    return True


def are_slow_editions(thing):
    if type(thing) is not tuple or not 2 <= len(thing) <= 4 or not all(map(is_slow_board, thing)):
        return False
    return len({board[0] for board in thing}) == 1


def slow_ends(editions, mix):
    return tuple(made_end(editions[number], hand) for hand, number in zip(editions[0][0], mix))


def slow_weak(editions, mix):
    return tuple(sorted(hand for hand, number in zip(editions[0][0], mix) if hand in editions[number][1]))


def slow_come_to(editions, room):
    """All mixes that are come to, by looking at all mixes."""
    mixes = list(itertools.product(range(len(editions)), repeat=len(editions[0][0])))
    sound = [mix for mix in mixes if is_slow_sound(slow_ends(editions, mix), room, slow_weak(editions, mix))]
    found = {(0,) * len(editions[0][0])}
    while True:
        more = {mix for mix in sound for elder in found
                if sum(mix) == sum(elder) + 1 and all(low <= high for low, high in zip(elder, mix))}
        if more <= found:
            return tuple(sorted(found))
        found |= more


def one_more(mix, hands, hand):
    return tuple(number + (name == hand) for number, name in zip(mix, hands))


def is_slow_order(editions, room, thing):
    """Whether thing is what order_of may tell."""
    if type(thing) is not tuple or len(thing) != 2 or type(thing[1]) is not tuple or len(thing[1]) != 2:
        return False
    one, two = thing[1]
    hands = editions[0][0]
    if type(thing[0]) is not str or type(one) is not tuple or type(two) is not tuple:
        return False
    if thing[0] == "order":
        mixes = [(0,) * len(hands)]
        for hand in one:
            if type(hand) is not str or hand not in hands:
                return False
            mixes.append(one_more(mixes[-1], hands, hand))
            if max(mixes[-1]) == len(editions):
                return False
        if set(mixes[-1]) != {len(editions) - 1} or len(two) != len(mixes):
            return False
        return all(is_slow_table(slow_ends(editions, mix), room, slow_weak(editions, mix), table)
                   for mix, table in zip(mixes, two))
    return thing[0] == "barred" and are_slow_bars(editions, room, one, two)


def are_slow_bars(editions, room, mixes, bars):
    hands = editions[0][0]
    for mix in mixes:
        if type(mix) is not tuple or len(mix) != len(hands):
            return False
        if not all(type(number) is int and 0 <= number < len(editions) for number in mix):
            return False
    if list(mixes) != sorted(set(mixes)) or (0,) * len(hands) not in mixes:
        return False
    if (len(editions) - 1,) * len(hands) in mixes:
        return False
    left = [(mix, hand) for mix in mixes for hand in sorted(hands)
            if mix[hands.index(hand)] + 1 < len(editions) and one_more(mix, hands, hand) not in mixes]
    if len(left) != len(bars):
        return False
    for step, bar in zip(left, bars):
        if type(bar) is not tuple or len(bar) != 3 or not same(bar[:2], step):
            return False
        mix = one_more(step[0], hands, step[1])
        if not is_slow_run_to_fault(slow_ends(editions, mix), room, slow_weak(editions, mix), bar[2]):
            return False
    return True


class TestEditions(unittest.TestCase):
    def test_two_to_four_boards_of_the_same_hands(self):
        for editions in ALL:
            with Unchanged(self, editions):
                self.assertIs(are_editions(thing=editions), True)
        self.assertIs(are_editions((PAIR, PAIR)), True)
        self.assertIs(are_editions((ALONE["ends"], ALONE["ends"])), True)
        self.assertIs(are_editions((PAIR,) * 4), True)
        for thing in (
            (), (PAIR,), (PAIR,) * 5, [PAIR, PAIR], (PAIR, GONE), (PAIR, PAIR[::-1]), PAIR, (PAIR, None),
            (PAIR, (("bob", "ann"), (), PAIR[2])), ASKING_FOUR + (asking("hi"),),
        ):
            self.assertIs(are_editions(thing), False)
        for thing in anything():
            with Unchanged(self, thing):
                self.assertIs(are_editions(thing), False)
                self.assertIs(are_editions((PAIR, thing)), False)

    def test_one_thing_otherwise(self):
        for thing in with_one_listed(MORE):
            self.assertIs(are_editions(thing), False)
        for other in (None, True, "", "Ann", [], -1, "ann", "bob", 1, 0, ("ann", "bob"), ("bob", "ann"), ("ann",)):
            for thing in with_one_otherwise(MORE, other):
                self.assertIs(are_editions(thing), are_slow_editions(thing), thing)

    def test_mixes(self):
        for editions in ALL:
            for mix in itertools.product(range(len(editions)), repeat=len(editions[0][0])):
                self.assertEqual(mix_ends(editions, mix), slow_ends(editions, mix))
                self.assertEqual(mix_weak(editions=editions, mix=mix), slow_weak(editions, mix))
        self.assertEqual(mix_weak(FALLING_TWO, (1, 0, 0)), ("ann",))
        self.assertEqual(mix_weak(FALLING_TWO, (0, 1, 1)), ())
        self.assertEqual(mix_ends(MORE, (1, 0)), (made(MORE[1])[1][0], made(MORE[0])[1][1]))


class TestMeets(unittest.TestCase):
    def test_small_ones(self):
        self.assertEqual(meets(ASKING_TWO, (0, 1, 0))[0], "sound")
        self.assertEqual(meets(ASKING_TWO, (1, 0, 0))[1][1][:3], ("waits", "ann", ("bob",)))
        self.assertEqual(meets(COMING, (0, 1, 0))[1][1][:3], ("waits", "cy", ("bob",)))
        self.assertEqual(meets(MORE, (1, 0))[1][1], ("left", "ann", "bob"))
        self.assertEqual(meets(MORE, (0, 1))[1][1][:3], ("waits", "bob", ("ann",)))
        self.assertEqual(meets(FALLING_TWO, (1, 0, 0))[1][1][:2], ("waits", "bob"))
        self.assertEqual(meets(FALLING_TWO, (0, 1, 1))[0], "sound")

    def test_as_walked(self):
        for editions in ALL + list(thrown_editions(12, 3)):
            for mix in itertools.product(range(len(editions)), repeat=len(editions[0][0])):
                ends, weak = slow_ends(editions, mix), slow_weak(editions, mix)
                for room in (1, 2):
                    told = meets(editions, mix, room=room, most=3000)
                    self.assertEqual(told, walked(ends, room=room, weak=weak, most=3000))
                    self.assertIs(shows_meets(editions, mix, told, room=room), True)
                    self.assertIs(shows_meets(editions, mix, told[::-1], room=room), False)
                    if len(set(mix)) == 1:
                        self.assertEqual(told[0], "sound")

    def test_shows_as_walked(self):
        table = meets(ASKING_TWO, (0, 1, 0))
        run = meets(ASKING_TWO, (1, 0, 0))
        for mix in itertools.product((0, 1), repeat=3):
            ends = slow_ends(ASKING_TWO, mix)
            for thing in (table, run, None, ("sound", ()), ("faulty", ((), ()))):
                self.assertIs(shows_meets(ASKING_TWO, mix, thing), shows_walked(ends, thing))
        for thing in anything():
            with Unchanged(self, thing):
                self.assertIs(shows_meets(editions=ASKING_TWO, mix=(0, 0, 0), thing=thing, room=1), False)

    def test_most(self):
        many = many_stands(mix_ends(ASKING_FOUR, (3, 3, 3)))
        meets(ASKING_FOUR, (3, 3, 3), most=many)
        self.assertRaises(TooWide, meets, ASKING_FOUR, (3, 3, 3), most=many - 1)
        meets(ASKING_FOUR, (0, 0, 0), most=many - 1)


class TestOrders(unittest.TestCase):
    def test_orders(self):
        for editions, hands in (
            (ASKING_TWO, ("ann", "bob", "cy")), (ASKING_FOUR, ("ann", "bob", "cy") * 3),
            (FALLING_TWO, ("ann", "bob", "cy")), (SAME, ("cy", "bob", "ann") * 2),
        ):
            kind, (order, tables) = order_of(editions)
            self.assertEqual((kind, sorted(order), len(tables)), ("order", sorted(hands), len(order) + 1))
            self.assertTrue(is_slow_order(editions, 1, (kind, (order, tables))))
            self.assertIs(shows_order(editions, (kind, (order, tables))), True)
        order = order_of(ASKING_TWO)[1][0]
        self.assertLess(order.index("bob"), order.index("ann"))
        order = order_of(FALLING_TWO)[1][0]
        self.assertLess(order.index("bob"), order.index("ann"))

    def test_bars(self):
        kind, (mixes, bars) = order_of(editions=MORE, room=1, most=1000)
        self.assertEqual((kind, mixes), ("barred", ((0, 0),)))
        self.assertEqual([bar[:2] for bar in bars], [((0, 0), "ann"), ((0, 0), "bob")])
        self.assertEqual([bar[2][1][0] for bar in bars], ["left", "waits"])
        kind, (mixes, bars) = order_of(COMING)
        self.assertEqual((kind, mixes), ("barred", ((0, 0, 0), (1, 0, 0))))
        self.assertEqual([bar[:2] for bar in bars], [
            ((0, 0, 0), "bob"), ((0, 0, 0), "cy"), ((1, 0, 0), "bob"), ((1, 0, 0), "cy"),
        ])

    def test_bars_rise_by_names(self):
        one = (("zoe", "ann"), (), MORE[0][2])
        other = (("zoe", "ann"), (), MORE[1][2])

        def swapped(places):
            names = {"ann": "zoe", "bob": "ann"}
            return tuple(place and (names[place[0]], tuple((names[to], *rest) for to, *rest in place[1])) for place in places)

        editions = ((one[0], (), swapped(one[2])), (other[0], (), swapped(other[2])))
        kind, (mixes, bars) = order_of(editions)
        self.assertEqual([bar[1] for bar in bars], ["ann", "zoe"])
        self.assertTrue(shows_order(editions, (kind, (mixes, bars))))
        self.assertFalse(shows_order(editions, (kind, (mixes, bars[::-1]))))

    def test_come_to(self):
        self.assertEqual(come_to(ASKING_TWO), ((0, 0, 0), (0, 0, 1), (0, 1, 0), (0, 1, 1), (1, 1, 0), (1, 1, 1)))
        self.assertEqual(come_to(COMING), ((0, 0, 0), (1, 0, 0)))
        self.assertEqual(come_to(editions=MORE, room=1, most=1000), ((0, 0),))
        for editions in ALL[:1] + ALL[2:] + list(thrown_editions(10, 7)):
            for room in (1, 2):
                with Unchanged(self, editions):
                    self.assertTrue(same(come_to(editions, room=room), slow_come_to(editions, room)))

    def test_as_slow_ones(self):
        seen = set()
        for editions in list(thrown_editions(14, 9)) + ALL:
            for room in (1, 2):
                told = order_of(editions, room=room)
                seen.add(told[0])
                self.assertTrue(is_slow_order(editions, room, told))
                self.assertIs(shows_order(editions, told, room=room), True)
                self.assertEqual(told, order_of(editions, room=room))
                last = (len(editions) - 1,) * len(editions[0][0])
                self.assertIs(told[0] == "order", last in come_to(editions, room=room))
                if told[0] == "barred":
                    self.assertEqual(told[1][0], come_to(editions, room=room))
        self.assertEqual(seen, {"order", "barred"})

    def test_where_ends_do_alike_one_goes_over_at_any_time(self):
        for mix in itertools.product(range(3), repeat=3):
            for at in range(3):
                for number in range(3):
                    other = mix[:at] + (number,) + mix[at + 1:]
                    if made_end(SAME[number], SAME[0][0][at]) == made_end(SAME[mix[at]], SAME[0][0][at]):
                        self.assertEqual(meets(SAME, mix)[0], meets(SAME, other)[0])

    def test_too_wide(self):
        for call in (come_to, order_of):
            wide = max(many_stands(mix_ends(ASKING_TWO, mix)) for mix in itertools.product((0, 1), repeat=3))
            call(ASKING_TWO, most=wide)
            self.assertRaises(TooWide, call, ASKING_TWO, most=wide - 1)
            # All noughts among them.
            first = many_stands(mix_ends(COMING, (0, 0, 0)))
            self.assertRaises(TooWide, call, COMING, most=first - 1)
        # Of the first one alone more come than may.
        one = read_talk("hands(ann bob) begin ann { bob hi bob { ann ok . } }")
        other = read_talk("hands(ann bob) begin ann { bob no bob { ann ok . } }")
        self.assertEqual([many_stands(mix_ends((one, other), mix)) for mix in ((0, 0), (0, 1), (1, 0))], [5, 2, 2])
        for call in (come_to, order_of):
            call((one, other), most=5)
            self.assertRaises(TooWide, call, (one, other), most=4)
        # A mix that isn't come to, nor one step from such, may be as wide as it likes.
        reached = {mix for at in come_to(MORE) for mix in (at, one_more(at, ("ann", "bob"), "ann"), one_more(at, ("ann", "bob"), "bob"))}
        wide = max(many_stands(mix_ends(MORE, mix)) for mix in reached)
        self.assertGreaterEqual(many_stands(mix_ends(MORE, (1, 1))), wide)
        self.assertEqual(come_to(MORE, most=wide), ((0, 0),))
        self.assertEqual(order_of(MORE, most=wide)[0], "barred")
        self.assertRaises(TooWide, order_of, MORE, most=wide - 1)

    def test_an_order_is_told_though_a_step_aside_is_barred(self):
        told = order_of(ASKING_TWO)
        self.assertEqual(told[0], "order")
        self.assertNotIn((1, 0, 0), come_to(ASKING_TWO))


class TestShowsOrder(unittest.TestCase):
    def test_orders_with_something_otherwise(self):
        for editions in (ASKING_TWO, FALLING_TWO):
            kind, (hands, tables) = order_of(editions)
            things = [(hands[::-1], tables), (hands[:-1], tables[:-1]), (hands, tables[:-1]), (hands, tables + tables[-1:]),
                      (hands, tables[::-1]), (hands + hands[:1], tables + tables[:1]), (list(hands), tables)]
            things += [(order, tables) for order in itertools.permutations(hands)]
            for order in itertools.permutations(hands):
                mixes = [(0, 0, 0)]
                for hand in order:
                    mixes.append(one_more(mixes[-1], editions[0][0], hand))
                things.append((order, tuple(meets(editions, mix)[1] for mix in mixes)))
            for other in ("eve", "ann", None, (), [], True, 1):
                things += [thing for thing in with_one_otherwise((hands, tables[:1]), other)]
                things += [(thing, tables) for thing in with_one_otherwise(hands, other)]
            at = len(tables) // 2
            for stand, (told, numbers) in enumerate(tables[at]):
                for number in (0, 1, 7, 10 ** 39, True):
                    row = (told, numbers[:1] + (number,) + numbers[2:])
                    table = tables[at][:stand] + (row,) + tables[at][stand + 1:]
                    things.append((hands, tables[:at] + (table,) + tables[at + 1:]))
            for thing in things:
                self.assertIs(shows_order(editions, (kind, thing)), is_slow_order(editions, 1, (kind, thing)), thing)
                self.assertIs(shows_order(editions, ("barred", thing)), False)
            greater = tuple(
                tuple((stand, tuple(number * 3 for number in numbers)) for stand, numbers in table) for table in tables
            )
            self.assertIs(shows_order(editions, (kind, (hands, greater))), True)

    def test_bars_with_something_otherwise(self):
        for editions in (MORE, COMING):
            kind, (mixes, bars) = order_of(editions)
            things = [(mixes[1:], bars), (mixes[:1], bars[:2]), (mixes[:1], bars), (mixes, bars[1:]), (mixes, bars[:-1]),
                      (mixes, bars + bars[-1:]), (mixes, bars[::-1]), (mixes[::-1], bars), (mixes + mixes[-1:], bars),
                      ((), ()), (list(mixes), bars), (mixes, list(bars)), (bars, mixes)]
            last = (1,) * len(editions[0][0])
            things.append((tuple(itertools.product((0, 1), repeat=len(last))), ()))
            things.append((tuple(itertools.product((0, 1), repeat=len(last)))[:-1], ()))
            for other in (None, True, False, 0, 1, 2, -1, "ann", "bob", "cy", "eve", (), [], "waits", "left", (0, 0), (1, 0)):
                things += list(with_one_otherwise((mixes, bars[:2]), other))
                things += [(mixes, (bar,) + bars[1:]) for bar in with_one_otherwise(bars[0], other)]
                things += [(changed, bars) for changed in with_one_otherwise(mixes, other)]
            turned = [bar for mix in mixes[::-1] for bar in bars if bar[0] == mix]
            things += [(mixes[::-1], tuple(turned)), (mixes + mixes[-1:], bars + tuple(turned[:2])),
                       (mixes, tuple(bar + (None,) for bar in bars)), (mixes, bars + (None,))]
            seen = set()
            for thing in things:
                told = is_slow_order(editions, 1, (kind, thing))
                seen.add(told)
                self.assertIs(shows_order(editions, (kind, thing)), told, thing)
                self.assertIs(shows_order(editions, ("order", thing)), False)
            self.assertTrue(shows_order(editions, (kind, (mixes, bars))))
            for word in ("Barred", "order", "", None, True, [], ("barred",)):
                self.assertIs(shows_order(editions, (word, (mixes, bars))), False)
            for thing in ((kind, (mixes, bars), ()), (kind, (mixes, bars, ())), (kind, mixes, bars), (kind,)):
                self.assertIs(shows_order(editions, thing), False)

    def test_more_mixes_may_be_told(self):
        # One that isn't come to, with its own bars.
        mixes = ((0, 0, 0), (0, 0, 1), (1, 0, 0), (1, 0, 1))
        bars = []
        for mix in mixes:
            for hand in ("ann", "bob", "cy"):
                come = one_more(mix, ("ann", "bob", "cy"), hand)
                if max(come) < 2 and come not in mixes:
                    bars.append((mix, hand, meets(COMING, come)[1]))
        told = ("barred", (mixes, tuple(bars)))
        self.assertIs(shows_order(COMING, told), is_slow_order(COMING, 1, told))

    def test_false_of_anything(self):
        for thing in anything():
            with Unchanged(self, thing):
                self.assertIs(shows_order(editions=MORE, thing=thing, room=1), False)
                for kind in ("order", "barred"):
                    self.assertIs(shows_order(MORE, (kind, thing)), False)
                    self.assertIs(shows_order(MORE, (kind, (thing, thing))), False)
                    self.assertIs(shows_order(MORE, (kind, ((thing,), (thing,)))), False)


class TestRefusals(unittest.TestCase):
    CALLS = [
        lambda editions, mix, room: mix_ends(editions, mix), lambda editions, mix, room: mix_weak(editions, mix),
        lambda editions, mix, room: meets(editions, mix, room=room),
        lambda editions, mix, room: shows_meets(editions, mix, None, room=room),
        lambda editions, mix, room: come_to(editions, room=room), lambda editions, mix, room: order_of(editions, room=room),
        lambda editions, mix, room: shows_order(editions, None, room=room),
    ]

    def test_their_order(self):
        stuck = ALONE["ends"]
        wide = TOO_WIDE
        let = (wide[0], (), ((wide[0][0], ((wide[0][1], "hi", 1),)), None))
        for call in self.CALLS:
            for thing in anything() + [(PAIR,), (PAIR, GONE), (PAIR,) * 5]:
                self.assertRaises(NoBoard, call, thing, None, 0)
            self.assertRaises(NoEnds, call, (stuck, stuck), None, 0)
            self.assertRaises(TooWide, call, (let, wide), None, 0)
            # Board by board: the stuck one stands ahead of the wide one, or behind it.
            other = (wide[0], (), ((wide[0][0], ((wide[0][1], "hi", 1), (wide[0][2], "hi", 1))), None))
            self.assertRaises(NoEnds, call, (other, wide), None, 0)
            self.assertRaises(TooWide, call, (wide, other), None, 0)
        for call in self.CALLS[:4]:
            for mix in anything() + [(0,), (0, 0, 0), (0, 2), (0, -1), (0, True), (False, 0), [0, 0], (0, "0"), (0, None)]:
                with self.assertRaises(NoPlace) as caught:
                    call(MORE, mix, 0)
                self.assertTrue(same(caught.exception.place, mix))
        for call in self.CALLS[2:]:
            for room in [0, 10, -1, None, True, "1", [1], (1,), 10 ** 39]:
                self.assertRaises(NoRoom, call, MORE, (0, 0), room)


if __name__ == "__main__":
    unittest.main()
