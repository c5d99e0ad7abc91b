"""Posts over a net (10.1 to 10.3), and the interface's part sayloom/net.py."""

import random
import unittest

from sayloom.errors import Full, LoomError, NoDeed, NoEnds, NoHand
from sayloom.halls import fault_in
from sayloom.making import made
from sayloom.net import Net
from tests.kinds import GONE, LIKE_DEEDS, ROUND, SIX, renamed
from tests.samples import PAIR, Unchanged, anything, same, with_one_listed, with_one_otherwise
from tests.slow_nets import SlowNet
from tests.test_ends import no_ends
from tests.test_halls import TALK, WEAK, bears
from tests.test_stands import thrown_halls

REFUSALS = (LoomError, NoHand, Full)
HI = ("say", "ann", "bob", "hi")
WORD = ("word", "ann", "bob", 1, "hi")
ANSWER = ("answer", "bob", "ann", 1)
KINDS = [
    (TALK, WEAK), (made(GONE)[1], ("ann",)), (made(ROUND)[1], ("ann", "bob")), (made(SIX)[1], ()), (made(PAIR)[1], ()),
    (made(renamed(GONE, LIKE_DEEDS))[1], ("say",)),
]


def net_behind(*deeds, ends=TALK, weak=WEAK):
    net = Net(ends, weak=weak)
    for deed in deeds:
        net.do(deed)
    return net


def told_of(net):
    """All that a net tells but its counts."""
    hands = [hand for hand, _ in net.ends]
    return (
        net.ends, net.weak, net.can_do(), list(net.copies().items()), list(net.under_way().items()),
        [(net.state_of(hand), net.is_done(hand), net.view_of(hand)) for hand in hands], net.fallen(), net.marks(),
        net.log(), len(net), repr(net),
    )


class TestNewNets(unittest.TestCase):
    def test_values_and_the_begin(self):
        with Unchanged(self, TALK, WEAK):
            net = Net(ends=TALK, weak=WEAK)
            self.assertEqual((net.ends, net.weak), (TALK, WEAK))
            self.assertEqual((net.log(), net.copies(), net.under_way(), net.fallen(), net.marks()), ((), {}, {}, (), ()))
            self.assertEqual((len(net), net.counts(), repr(net)), (0, (0, 0), "Net(3 hands, 0 deeds)"))
            self.assertEqual(net.can_do(), (
                ("fall", "ann"), ("fall", "cy"), ("say", "ann", "bob", "hi"), ("say", "ann", "cy", "hi"),
                ("say", "bob", "cy", "on"),
            ))
            self.assertEqual(Net(TALK).weak, ())
            self.assertIsInstance(net.log(), tuple)

    def test_refused(self):
        for ends in anything() + no_ends() + [TALK[:2]]:
            self.assertRaises(NoEnds, Net, ends, weak=None)
        for weak in [None, ["ann"], ("eve",), ("cy", "ann"), ("ann", "ann"), "ann", (None,), ([],), {}, True]:
            with self.assertRaises(NoHand) as caught:
                Net(TALK, weak=weak)
            self.assertTrue(same(caught.exception.hand, weak))


class TestDeeds(unittest.TestCase):
    def test_a_word_and_its_answer(self):
        net = Net(TALK, weak=WEAK)
        self.assertEqual(net.do(HI), HI)
        self.assertEqual((net.copies(), net.under_way()), ({WORD: 1}, {"ann": WORD}))
        self.assertEqual(net.do(("carry", WORD)), ("hear", "bob", "ann", "hi"))
        self.assertEqual((net.copies(), net.under_way()), ({ANSWER: 1}, {"ann": WORD}))
        self.assertIsNone(net.do(deed=("carry", ANSWER)))
        self.assertEqual((net.copies(), net.under_way()), ({}, {}))
        self.assertEqual(net.log(), (HI, ("hear", "bob", "ann", "hi")))
        self.assertEqual((len(net), net.counts(), repr(net)), (3, (3, 0), "Net(3 hands, 3 deeds)"))
        # Numbers go on, whoever is to hear the word.
        net.do(("say", "ann", "cy", "hi"))
        self.assertEqual(net.under_way(), {"ann": ("word", "ann", "cy", 2, "hi")})

    def test_one_word_under_way(self):
        net = net_behind(HI)
        for deed in (HI, ("say", "ann", "cy", "hi")):
            with self.assertRaises(Full) as caught:
                net.do(deed)
            self.assertEqual(bears(caught.exception), ("ann", "bob"))
        self.assertRaises(NoDeed, net.do, ("say", "ann", "cy", "no"))
        self.assertEqual(net.counts(), (4, 3))
        net.do(("carry", WORD))
        self.assertRaises(Full, net.do, HI)
        net.do(("carry", ANSWER))
        net.do(HI)

    def test_copies_lost_doubled_and_said_again(self):
        net = net_behind(HI)
        self.assertIsNone(net.do(("double", WORD)))
        self.assertIsNone(net.do(("again", "ann")))
        self.assertEqual(net.copies(), {WORD: 3})
        self.assertIsNone(net.do(("lose", WORD)))
        self.assertEqual(net.copies(), {WORD: 2})
        for _ in range(2):
            net.do(("lose", WORD))
        self.assertEqual((net.copies(), net.under_way()), ({}, {"ann": WORD}))
        for kind in ("lose", "double", "carry"):
            self.assertRaises(NoDeed, net.do, (kind, WORD))
        net.do(("again", "ann"))
        self.assertEqual(net.do(("carry", WORD)), ("hear", "bob", "ann", "hi"))
        self.assertRaises(NoDeed, net.do, ("again", "bob"))

    def test_old_copies_are_answered_and_not_heard(self):
        net = net_behind(HI, ("double", WORD), ("double", WORD), ("carry", WORD), ("carry", ANSWER), HI)
        second = ("word", "ann", "bob", 2, "hi")
        self.assertIsNone(net.do(("carry", WORD)))
        self.assertEqual(net.copies(), {ANSWER: 1, WORD: 1, second: 1})
        # An old answer frees nothing.
        net.do(("carry", ANSWER))
        self.assertEqual(net.under_way(), {"ann": second})
        self.assertEqual(net.do(("carry", second)), ("hear", "bob", "ann", "hi"))
        net.do(("carry", WORD))
        self.assertEqual(net.copies(), {ANSWER: 1, ("answer", "bob", "ann", 2): 1})
        self.assertEqual(list(net.copies()), sorted(net.copies()))
        net.do(("carry", ("answer", "bob", "ann", 2)))
        # The end can't hear it any more, it is answered even so.
        self.assertEqual(net.under_way(), {})

    def test_what_the_end_cannot_hear_is_gone(self):
        net = net_behind(("say", "bob", "cy", "on"), ("say", "ann", "cy", "hi"))
        self.assertIsNone(net.do(("carry", ("word", "ann", "cy", 1, "hi"))))
        self.assertEqual(net.copies(), {("word", "bob", "cy", 1, "on"): 1})
        self.assertEqual(list(net.under_way()), ["bob", "ann"])
        self.assertEqual(net.do(("carry", ("word", "bob", "cy", 1, "on"))), ("hear", "cy", "bob", "on"))

    def test_marks(self):
        net = net_behind(HI)
        self.assertRaises(NoDeed, net.do, ("mark", "bob", "ann"))
        net.do(("fall", "ann"))
        self.assertEqual(net.do(("mark", "cy", "ann")), ("hear", "cy", "ann", "!"))
        self.assertIsNone(net.do(("mark", "cy", "ann")))
        self.assertEqual(net.marks(), (("cy", "ann"),))
        self.assertRaises(NoDeed, net.do, ("mark", "ann", "cy"))
        net.do(("mark", "bob", "ann"))
        self.assertEqual(net.marks(), (("bob", "ann"), ("cy", "ann")))
        self.assertEqual(net.view_of("bob"), (("hear", "ann", "!"),))
        # Behind the fault nothing of ann is heard.
        self.assertIsNone(net.do(("carry", WORD)))
        self.assertEqual(net.copies(), {})

    def test_a_mark_frees_words_to_the_fallen(self):
        net = net_behind(("say", "bob", "cy", "on"), ("fall", "cy"), ("again", "bob"))
        word = ("word", "bob", "cy", 1, "on")
        self.assertIsNone(net.do(("carry", word)))
        self.assertEqual((net.copies(), net.under_way()), ({word: 1}, {"bob": word}))
        self.assertRaises(Full, net.do, ("say", "bob", "cy", "on"))
        self.assertEqual(net.do(("mark", "bob", "cy")), ("hear", "bob", "cy", "!"))
        self.assertEqual((net.copies(), net.under_way()), ({word: 1}, {}))
        # From then on words to it are gone at once, but have their numbers.
        self.assertEqual(net.do(("say", "bob", "cy", "on")), ("say", "bob", "cy", "on"))
        self.assertEqual((net.copies(), net.under_way()), ({word: 1}, {}))
        net.do(("say", "bob", "cy", "on"))
        self.assertEqual(len(net.log()), 5)

    def test_numbers_go_on_behind_words_that_are_gone(self):
        ends = (
            ("ann", ((("say", "bob", "hi", 0), ("say", "cy", "hi", 0)),)),
            ("bob", ((("hear", "ann", "hi", 0),),)), ("cy", ((("hear", "ann", "hi", 0),),)),
        )
        to_cy = ("say", "ann", "cy", "hi")
        net = net_behind(("fall", "cy"), ("mark", "ann", "cy"), to_cy, to_cy, HI, ends=ends, weak=("cy",))
        self.assertEqual(net.under_way(), {"ann": ("word", "ann", "bob", 3, "hi")})
        with self.assertRaises(Full):
            net.do(to_cy)
        self.assertEqual(net.marks(), (("ann", "cy"),))

    def test_a_mark_taken_before_the_end_can_hear_it(self):
        ends = (
            ("ann", ((("say", "bob", "hi", 1),), (("hear", "bob", "!", 2),), ())), ("bob", ((),)),
        )
        net = net_behind(("fall", "bob"), ("mark", "ann", "bob"), HI, ends=ends, weak=("bob",))
        self.assertEqual((net.copies(), net.view_of("ann")), ({}, (("say", "bob", "hi"),)))
        self.assertEqual(net.do(("mark", "ann", "bob")), ("hear", "ann", "bob", "!"))
        self.assertTrue(net.is_done("ann"))

    def test_behind_the_fault_no_word_is_heard(self):
        ends = (("ann", ((("say", "bob", "hi", 0),),)), ("bob", ((("hear", "ann", "!", 0), ("hear", "ann", "hi", 0)),)))
        deeds = (HI, ("double", WORD), ("carry", WORD), ("carry", ANSWER), HI, ("fall", "ann"), ("mark", "bob", "ann"))
        net = net_behind(*deeds, ends=ends, weak=("ann",))
        self.assertIsNone(net.do(("carry", ("word", "ann", "bob", 2, "hi"))))
        self.assertEqual((net.copies(), len(net.view_of("bob"))), ({WORD: 1}, 2))
        # What was heard ahead of it is answered even so.
        self.assertIsNone(net.do(("carry", WORD)))
        self.assertEqual(net.copies(), {ANSWER: 1})
        self.assertIsNone(net.do(("mark", "bob", "ann")))

    def test_nothing_comes_of_what_is_carried_to_the_fallen(self):
        net = net_behind(HI, ("double", WORD), ("carry", WORD), ("fall", "ann"))
        self.assertEqual(net.under_way(), {})
        self.assertIsNone(net.do(("carry", ANSWER)))
        self.assertEqual(net.copies(), {WORD: 1})
        self.assertIsNone(net.do(("carry", WORD)))
        self.assertEqual(net.copies(), {ANSWER: 1})
        for deed in (HI, ("again", "ann"), ("fall", "ann"), ("mark", "ann", "bob")):
            self.assertRaises(NoDeed, net.do, deed)


class TestLog(unittest.TestCase):
    # ann hears bob's word, with a word of her own under way that nobody has heard, and falls.
    ENDS = (
        ("ann", ((("say", "cy", "hi", 1),), (("hear", "bob", "yes", 2),), ())),
        ("bob", ((("say", "ann", "yes", 1),), (("hear", "ann", "!", 2),), ())),
        ("cy", ((("hear", "ann", "!", 1), ("hear", "ann", "hi", 1)), ())),
    )
    TO_CY = ("word", "ann", "cy", 1, "hi")
    FALLS = (("say", "bob", "ann", "yes"), ("say", "ann", "cy", "hi"), ("carry", ("word", "bob", "ann", 1, "yes")),
             ("fall", "ann"))

    def test_what_nobody_heard_is_cut(self):
        net = net_behind(*self.FALLS, ends=self.ENDS, weak=("ann",))
        self.assertEqual(net.log(), (self.FALLS[0], ("fall", "ann")))
        self.assertEqual(net.view_of("ann"), (("say", "cy", "hi"), ("hear", "bob", "yes")))
        net.do(("mark", "bob", "ann"))
        self.assertEqual(net.log(), (self.FALLS[0], ("fall", "ann"), ("hear", "bob", "ann", "!")))
        self.assertIsNone(fault_in(self.ENDS, net.log(), room=1, weak=("ann",)))

    def test_what_is_heard_late_is_cut_no_more(self):
        net = net_behind(*self.FALLS, ("mark", "bob", "ann"), ends=self.ENDS, weak=("ann",))
        self.assertEqual(net.do(("carry", self.TO_CY)), ("hear", "cy", "ann", "hi"))
        log = (self.FALLS[0], self.FALLS[1], ("hear", "ann", "bob", "yes"), ("fall", "ann"),
               ("hear", "bob", "ann", "!"), ("hear", "cy", "ann", "hi"))
        self.assertEqual(net.log(), log)
        self.assertIsNone(fault_in(self.ENDS, log, room=1, weak=("ann",)))

    def test_behind_the_fault_it_stays_cut(self):
        net = net_behind(*self.FALLS, ("mark", "cy", "ann"), ("carry", self.TO_CY), ends=self.ENDS, weak=("ann",))
        self.assertEqual(net.log(), (self.FALLS[0], ("fall", "ann"), ("hear", "cy", "ann", "!")))

    def test_a_word_that_is_heard_and_not_answered_is_not_cut(self):
        deeds = (self.FALLS[1], ("carry", self.TO_CY), ("fall", "ann"))
        net = net_behind(*deeds, ends=self.ENDS, weak=("ann",))
        self.assertEqual(net.log(), (deeds[0], ("hear", "cy", "ann", "hi"), ("fall", "ann")))
        net.do(("mark", "cy", "ann"))
        self.assertEqual(len(net.log()), 3)

    def test_a_word_to_one_that_fell_is_cut(self):
        net = net_behind(("say", "ann", "cy", "hi"), ("fall", "cy"), ("fall", "ann"), ends=self.ENDS, weak=("ann", "cy"))
        self.assertEqual(net.log(), (("fall", "ann"), ("fall", "cy")))
        marked = net_behind(("say", "ann", "cy", "hi"), ("fall", "cy"), ("mark", "ann", "cy"), ("fall", "ann"),
                            ends=self.ENDS, weak=("ann", "cy"))
        self.assertEqual(marked.log(), (("say", "ann", "cy", "hi"), ("fall", "cy"), ("fall", "ann")))


class TestThrown(unittest.TestCase):
    def test_as_slow_ones(self):
        dice = random.Random(17)
        for ends, weak in KINDS * 6 + list(thrown_halls(60, 19)):
            net, slow = Net(ends, weak=weak), SlowNet(ends, weak)
            for _ in range(dice.choice([5, 40])):
                deeds = self.thrown_deeds(dice, net)
                self.both(net, slow, deeds, dice.random() < 0.3 or len(deeds) != 1)
                self.look_over(net, slow)

    def thrown_deeds(self, dice, net):
        deeds = [deed for deed in net.can_do() if deed[0] != "fall" or dice.random() < 0.05]
        some = dice.choices(deeds, k=dice.choice([1, 1, 1, 2, 3, 0])) if deeds else []
        if dice.random() < 0.2:
            hands = [hand for hand, _ in net.ends] + ["eve", None]
            odd = [("again", dice.choice(hands)), ("mark", dice.choice(hands), dice.choice(hands)),
                   ("say", dice.choice(hands), dice.choice(hands), dice.choice(["hi", "yes", "on", []])),
                   ("fall", dice.choice(hands)), ("carry", ("word", dice.choice(hands), dice.choice(hands), 1, "hi")),
                   ("lose", ("answer", dice.choice(hands), dice.choice(hands), True)), ("say",), None]
            some.append(dice.choice(odd))
        return tuple(some)

    def both(self, net, slow, deeds, as_row):
        slow.calls += 1
        expected = slow.do(deeds)
        if expected and isinstance(expected[0], type):
            slow.refused += 1
        try:
            told = net.all_of(deeds) if as_row else (net.do(deeds[0]),)
        except REFUSALS as caught:
            told = (type(caught), bears(caught))
        self.assertTrue(same(told, expected), (deeds, told, expected))

    def look_over(self, net, slow):
        told = slow.replay()
        self.assertEqual(net.can_do(), slow.can_do())
        self.assertEqual(list(net.copies().items()), sorted(told["copies"].items()))
        self.assertEqual(list(net.under_way().items()), [(h, told["under"][h]) for h in slow.hands if h in told["under"]])
        self.assertEqual([net.view_of(hand) for hand in slow.hands], [slow.view(told, hand) for hand in slow.hands])
        self.assertEqual((net.fallen(), net.marks()), (tuple(sorted(told["fallen"])), tuple(sorted(told["marks"]))))
        self.assertEqual((net.log(), len(net)), (slow.log(told), len(slow.deeds)))
        self.assertEqual(net.counts(), (slow.calls, slow.refused))
        self.assertIsNone(fault_in(net.ends, net.log(), room=1, weak=net.weak))


class TestRefusals(unittest.TestCase):
    def test_no_deed_by_word_and_length(self):
        net = net_behind(HI)
        for deed in anything() + [
            ("say", "ann", "bob"), HI + (0,), ("again",), ("again", "eve", "ann"), ("lose",), ("carry", WORD, WORD),
            ("mark", "eve"), ("mark", "ann", "bob", "cy"), ("fall", "eve", "ann"), ("hear", "bob", "ann"), list(HI),
            ("Say", "ann", "bob", "hi"), (["say"], "ann", "bob", "hi"), "say", ("double", WORD, 1), (None, None),
        ]:
            with self.subTest(deed=deed), Unchanged(self, deed):
                self.assertRaises(NoDeed, net.do, deed)
                self.assertRaises(NoDeed, net.all_of, (("again", "ann"), deed))
        self.assertEqual(told_of(net), told_of(net_behind(HI)))

    def test_no_hand_ahead_of_no_deed(self):
        net = net_behind(("fall", "ann"))
        for hand in anything():
            for deed in (("say", hand, "ann", "hi"), ("say", "ann", hand, "hi"), ("again", hand), ("fall", hand),
                         ("mark", hand, "ann"), ("mark", "ann", hand)):
                with self.assertRaises(NoHand) as caught:
                    net.do(deed)
                self.assertTrue(same(caught.exception.hand, hand))
        for deed in (("say", "ann", "ann", "hi"), ("mark", "ann", "ann")):
            with self.assertRaises(NoHand) as caught:
                net.do(deed)
            self.assertEqual(caught.exception.hand, "ann")
        with self.assertRaises(NoHand) as caught:
            net.do(("mark", "eve", "flo"))
        self.assertEqual(caught.exception.hand, "eve")
        for hand in anything():
            for call in (net.state_of, net.is_done, net.view_of):
                with self.assertRaises(NoHand) as caught:
                    call(hand=hand)
                self.assertTrue(same(caught.exception.hand, hand))

    def test_no_such_copy(self):
        net = net_behind(HI)
        things = anything() + list(with_one_listed(WORD)) + [ANSWER, list(WORD), WORD[:4], WORD + (0,)]
        for other in anything() + [1, 2, "cy", "word", "answer"]:
            things.extend(thing for thing in with_one_otherwise(WORD, other) if not same(thing, WORD))
        things.append(("word", "ann", "bob", True, "hi"))
        for thing in things:
            for kind in ("lose", "double", "carry"):
                with self.subTest(thing=thing):
                    self.assertRaises(NoDeed, net.do, (kind, thing))
        self.assertEqual(net.copies(), {WORD: 1})

    def test_rows_are_done_all_or_none(self):
        net = net_behind(HI)
        ahead = told_of(net)
        for last, error in ((HI, Full), (("carry", ANSWER), NoDeed), (("again", "eve"), NoHand), (None, NoDeed)):
            self.assertRaises(error, net.all_of, (("double", WORD), ("fall", "cy"), ("mark", "ann", "cy"), last))
            self.assertEqual(told_of(net), ahead)
        self.assertEqual(net.counts(), (5, 4))
        self.assertEqual(net.all_of(deeds=()), ())
        self.assertEqual(net.all_of((("carry", WORD), ("fall", "cy"))), (("hear", "bob", "ann", "hi"), ("fall", "cy")))
        for thing in [None, [], [HI], "say", {}, 1, True]:
            self.assertRaises(NoDeed, net.all_of, thing)
        self.assertEqual((net.counts(), len(net)), ((14, 11), 3))
        # What was done ahead of a refused one may not be seen in what it heard either.
        self.assertRaises(NoDeed, net.all_of, (("say", "bob", "cy", "on"), ("mark", "bob", "cy"), None))
        self.assertEqual((net.under_way(), net.marks(), net.log()[-1]), ({"ann": WORD}, (), ("fall", "cy")))


class TestTwins(unittest.TestCase):
    DEEDS = (HI, ("double", WORD), ("carry", WORD), ("fall", "cy"), ("mark", "bob", "cy"), ("say", "bob", "cy", "on"))

    def test_a_twin_is_by_itself(self):
        net = net_behind(*self.DEEDS)
        other = net.twin()
        self.assertIsInstance(other, Net)
        self.assertEqual(other, net)
        self.assertEqual(told_of(other), told_of(net))
        self.assertEqual((other.counts(), net.counts()), ((0, 0), (6, 0)))
        ahead = told_of(net)
        for deed in (("carry", WORD), ("carry", ANSWER), ("fall", "ann"), ("mark", "bob", "ann")):
            other.do(deed)
        self.assertEqual(told_of(net), ahead)
        self.assertNotEqual(other, net)
        for deed in (("carry", WORD), ("carry", ANSWER), ("fall", "ann"), ("mark", "bob", "ann")):
            net.do(deed)
        self.assertEqual(told_of(other), told_of(net))

    def test_a_twin_of_one_that_is_cut(self):
        net = net_behind(*TestLog.FALLS, ends=TestLog.ENDS, weak=("ann",))
        other = net.twin()
        other.do(("carry", TestLog.TO_CY))
        self.assertEqual((len(other.log()), len(net.log())), (5, 2))

    def test_like_ones(self):
        net = net_behind(*self.DEEDS)
        self.assertTrue(net == net.twin() and not net != net.twin())
        # How it was come to is no matter: one more copy made and lost.
        self.assertEqual(net, net_behind(*self.DEEDS, ("double", WORD), ("lose", WORD)))
        self.assertEqual(net, net_behind(*self.DEEDS, ("mark", "bob", "cy")))
        for deed in (("double", WORD), ("lose", WORD), ("carry", ANSWER), ("mark", "ann", "cy"), ("fall", "ann"),
                     ("say", "bob", "cy", "on")):
            self.assertNotEqual(net, net_behind(*self.DEEDS, deed), deed)
        self.assertNotEqual(Net(TALK), Net(TALK, weak=WEAK))
        self.assertNotEqual(Net(made(PAIR)[1]), Net(made(GONE)[1]))
        pairs = made(PAIR)[1]
        self.assertNotEqual(Net(pairs), Net((pairs[0], ("bob", pairs[1][1] + ((),)))))
        heard = (HI, ("carry", WORD))
        one, two = net_behind(*heard, ("lose", ANSWER)), net_behind(*heard, ("carry", ANSWER))
        self.assertEqual((one.copies(), one.log(), one.marks()), (two.copies(), two.log(), two.marks()))
        self.assertNotEqual(one, two)
        on = ("say", "bob", "cy", "on")
        self.assertNotEqual(net_behind(HI, on), net_behind(on, HI))
        for thing in anything() + [TALK]:
            self.assertFalse(net == thing)
            self.assertTrue(net != thing)

    def test_what_is_cut_still_tells_them_apart(self):
        ends, weak = TestLog.ENDS, ("ann",)
        yes = ("word", "bob", "ann", 1, "yes")
        ahead = TestLog.FALLS[:2]
        one = net_behind(*ahead, ("carry", yes), ("lose", ("answer", "ann", "bob", 1)), ("fall", "ann"), ends=ends, weak=weak)
        two = net_behind(*ahead, ("lose", yes), ("fall", "ann"), ends=ends, weak=weak)
        self.assertEqual((one.log(), one.copies(), one.under_way()), (two.log(), two.copies(), two.under_way()))
        self.assertNotEqual(one.view_of("ann"), two.view_of("ann"))
        self.assertNotEqual(one, two)

    def test_what_was_told_may_be_changed(self):
        net = net_behind(*self.DEEDS)
        ahead = told_of(net)
        for told in (net.copies(), net.under_way()):
            told.clear()
        self.assertEqual(told_of(net), ahead)
        self.assertEqual(told_of(net), ahead)

    def test_asking_counts_nothing(self):
        net = net_behind(*self.DEEDS)
        told_of(net)
        net.twin()
        self.assertEqual(net.counts(), (6, 0))


if __name__ == "__main__":
    unittest.main()
