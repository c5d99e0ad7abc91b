"""Texts of talks (2.1 to 2.4), and the interface's part sayloom/texts.py."""

import random
import unittest

from sayloom.boards import is_board
from sayloom.errors import NoBoard, NoText, TooWide
from sayloom.rows import is_row
from sayloom.texts import MOST, in_order, points, read_talk, talk_text
from tests.kinds import ALL_KINDS, LET, STUCK
from tests.samples import (
    ASKING, BOARDS, BOTH, PAIR, Unchanged, all_rows, anything, chain, made_up_boards, ring, same, star,
)
from tests.talks import Thrown, first_wrong, slow_words

EXAMPLE = (
    "hands(ann bob *cy) begin ask(ann bob) part ask(x y): x { y want y { x yes . | x no ask(y x) } | cy note . }"
)
HEAD = "hands(ann bob cy) begin "


def parts_of(many):
    """A text of so many parts, each but the last one going on to the next one."""
    names = ["p" + "abcdefgh"[at // 8] + "abcdefgh"[at & 7] for at in range(many)]
    goes = [name + "()" for name in names[1:]] + ["."]
    parts = [f"part {name}(): ann {{ bob hi {go} }}" for name, go in zip(names, goes)]
    return HEAD + names[0] + "() " + " ".join(parts)


def within(many):
    """A text of so many sayings within one another."""
    return HEAD + "ann { bob hi " * many + "." + " }" * many


def branching(many, fault=False):
    """A text of one saying with so many branches, and one with a fault ahead of these where that is so."""
    told = ["bob ! ."] * fault + [f"bob {word} ." for word in "abcdefghij"[:many]]
    return HEAD + "ann { " + " | ".join(told) + " }"


class TestTexts(unittest.TestCase):
    def at(self, text, number, **more):
        """The text is refused with the number, by both that read it."""
        for asked in (read_talk, points):
            with self.subTest(text=text), Unchanged(self, text), self.assertRaises(NoText) as caught:
                asked(text, **more)
            self.assertTrue(same(caught.exception.at, number), (text, caught.exception.at, number))

    def by_word(self, text):
        """The text has one word in brackets: it is refused with the number of that."""
        words = slow_words(text)
        self.at(text.replace("[", "").replace("]", ""), words.index("["))

    def read(self, text, *places, hands=("ann", "bob", "cy"), weak=()):
        with self.subTest(text=text), Unchanged(self, text):
            board = read_talk(text)
            self.assertTrue(same(board, (hands, weak, places)), board)
            self.assertIs(is_board(board), True)


class TestForm(TestTexts):
    def test_the_documents_example(self):
        self.assertEqual(read_talk(EXAMPLE), ASKING)
        told = (("ask", ("ann", "bob"), 20), ("ask", ("ann", "bob"), 24), None, ("ask", ("bob", "ann"), 20),
                ("ask", ("bob", "ann"), 24))
        self.assertTrue(same(points(EXAMPLE), told))
        self.assertEqual(slow_words(EXAMPLE)[20], "x")
        self.assertEqual(slow_words(EXAMPLE)[24], "y")

    def test_blanks_and_line_ends_part_words_and_are_none(self):
        bare = "hands(ann bob*cy)begin ask(ann bob)part ask(x y):x{y want y{x yes.|x no ask(y x)}|cy note.}"
        wide = "\n " + " \n\n ".join(slow_words(EXAMPLE)) + "\n\n"
        for text in (bare, wide, EXAMPLE + "\n", EXAMPLE.replace(" ", "\n"), EXAMPLE.replace(" ", "   ")):
            self.assertEqual(read_talk(text), ASKING)
            self.assertEqual(points(text), points(EXAMPLE))
        self.at("han ds(ann bob) begin .", 0)
        self.at("hands(ann bob) be\ngin .", 5)
        self.at("hands(annbob) begin .", 3)

    def test_words_of_the_form_are_names_too(self):
        text = ("hands(hands *begin part) begin part(begin part) "
                "part part(hands begin): begin { hands part hands { begin begin . | begin ! part(begin part) } "
                "| hands ! . }")
        hands = ("hands", "begin", "part")
        with self.assertRaises(NoText):
            read_talk(text)
        text = ("hands(hands *begin part) begin begin(part hands) "
                "part begin(hands part): hands { part part part { hands begin . | hands hands begin(part hands) } }")
        self.read(
            text, ("part", (("hands", "part", 1),)), ("hands", (("part", "begin", 2), ("part", "hands", 3))), None,
            ("hands", (("part", "part", 4),)), ("part", (("hands", "begin", 2), ("hands", "hands", 0))),
            hands=hands, weak=("begin",),
        )
        self.read("hands(part begin) begin part { begin hands . }", ("part", (("begin", "hands", 1),)), None,
                  hands=("part", "begin"))

    def test_two_to_six_unlike_hands(self):
        self.by_word("hands(ann [)] begin .")
        self.by_word("hands([)] begin .")
        self.by_word("hands(ann bob cy dora ed flo [gus]) begin .")
        self.by_word("hands(ann bob cy dora ed flo [*]gus) begin .")
        self.by_word("hands(ann bob [ann]) begin .")
        self.by_word("hands(ann *[ann]) begin .")
        self.by_word("hands(*ann bob [ann]) begin .")
        self.by_word("hands(ann **bob) begin .".replace("**", "*[*]"))
        self.by_word("hands(ann bob *[)] begin .")
        six = ("ann", "bob", "cy", "dora", "ed", "flo")
        self.read("hands(ann bob cy dora ed flo) begin .", None, hands=six)
        self.read("hands(*flo *ann bob) begin .", None, hands=("flo", "ann", "bob"), weak=("ann", "flo"))

    def test_names_have_one_to_eight_letters(self):
        self.read("hands(a abcdefgh) begin abcdefgh { a bcdefghi . }", ("abcdefgh", (("a", "bcdefghi", 1),)), None,
                  hands=("a", "abcdefgh"))
        self.by_word("hands(a [abcdefghi]) begin .")
        self.by_word("hands(a b) begin [abcdefghi]() .")
        self.by_word("hands(a b) begin a { b [abcdefghi] . }")
        self.by_word("hands(a b) begin a { [abcdefghi] hi . }")
        self.by_word("hands(a b) begin . part [abcdefghi](): a { b hi . }")
        self.by_word("hands(a b) begin . part p([abcdefghi]): a { b hi . }")
        self.by_word("hands(a [A]) begin .")
        self.by_word("hands(a b[0]) begin .")
        self.by_word("hands(a b) begin a { b hi[-]ho . }")

    def test_unlike_parameters_and_parts(self):
        self.by_word("hands(a b) begin p(a b) part p(x [x]): x { b hi . }")
        self.by_word("hands(a b) begin . part p(): a { b hi . } part [p](): a { b hi . }")
        self.by_word("hands(a b) begin . part p(u v w x y z [a]): a { b hi . }")
        self.read("hands(a b) begin p(a b a b a b) part p(u v w x y z): u { v hi . }",
                  ("a", (("b", "hi", 1),)), None, hands=("a", "b"))

    def test_none_to_forty_parts(self):
        self.assertEqual(read_talk(parts_of(39)), (("ann", "bob", "cy"), (), chain(40)[2]))
        text = parts_of(40)
        self.assertIs(is_board(read_talk(text.replace("hi . }", "hi paa() }"))), True)
        with self.assertRaises(TooWide):
            read_talk(text)
        more = parts_of(41)
        number = [at for at, word in enumerate(slow_words(more)) if word == "part"][40]
        self.at(more, number)

    def test_calls_of_none_to_six(self):
        self.by_word("hands(a b) begin p(a a a a a a [a]) part p(u v w x y z): a { b hi . }")
        self.by_word("hands(a b) begin p([c]) part p(x): x { a hi . }")
        self.by_word("hands(a b) begin p([x]) part p(x): x { a hi . }")
        self.by_word("hands(a b) begin p(a [*]b) part p(x): x { a hi . }")
        self.read("hands(a b) begin p() part p(): a { b hi p() }", ("a", (("b", "hi", 0),)), hands=("a", "b"))

    def test_one_to_eight_branches(self):
        self.assertEqual(read_talk(branching(8))[2], star(8)[2])
        self.assertEqual(read_talk(branching(1))[2], star(1)[2])
        self.assertEqual(read_talk(branching(7, fault=True))[2], star(7)[2])
        words = slow_words(branching(9))
        self.at(branching(9), [at for at, word in enumerate(words) if word == "|"][7])
        words = slow_words(branching(8, fault=True))
        self.at(branching(8, fault=True), [at for at, word in enumerate(words) if word == "|"][7])
        self.by_word(HEAD + "ann { [}]")
        self.by_word(HEAD + "ann { bob hi . | [}]")

    def test_one_fault_at_most_and_one_word_at_least(self):
        self.by_word(HEAD + "ann { bob ! . [}]")
        self.by_word(HEAD + "ann { bob ! . | cy [!] . | cy hi . }")
        self.by_word(HEAD + "ann { bob hi . | bob ! . | cy [!] . }")
        self.read(HEAD + "ann { bob ! . | bob hi . }", ("ann", (("bob", "hi", 1),)), None)

    def test_twelve_sayings_within_one_another(self):
        self.assertEqual(len(read_talk(within(12))[2]), 13)
        words = slow_words(within(13))
        self.at(within(13), [at for at, word in enumerate(words) if word == "{"][12])
        part = " part p(): " + within(12)[len(HEAD):]
        self.assertEqual(len(read_talk(HEAD + "p()" + part)[2]), 13)
        deep = within(12).replace("hi .", "hi p() ") + part
        self.assertEqual(len(read_talk(deep)[2]), 25)

    def test_who_is_a_hand_where(self):
        self.by_word(HEAD + "dora [{] bob hi . }")
        self.by_word(HEAD + "ann { [dora] hi . }")
        self.by_word(HEAD + "ann { bob hi dora [{] bob hi . } }")
        self.by_word(HEAD + ". part p(x): [dora] { bob hi . }")
        self.by_word(HEAD + "x [{] bob hi . } part p(x): x { bob hi . }")
        self.by_word(HEAD + ". part p(x): x { bob hi . } part q(y): y { [x] hi . }")
        self.by_word(HEAD + ". part p(x): [.]")
        self.by_word(HEAD + ". part p(x): ann [(] )")

    def test_each_word_of_the_form_is_waited_for(self):
        self.by_word("[hand](a b) begin .")
        self.by_word("hands[{]a b} begin .")
        self.by_word("hands(a b) [start] .")
        self.by_word("hands(a b) begin [;]")
        self.by_word("hands(a b) begin . [.]")
        self.by_word("hands(a b) begin . [end]")
        self.by_word("hands(a b) begin . part p [:] a { b hi . }")
        self.by_word("hands(a b) begin . part p() [a] { b hi . }")
        self.by_word("hands(a b) begin . part p(): a { b hi . [,] b ho . }")
        self.by_word("hands(a b) begin a { b hi . } [a] { b hi . }")

    def test_texts_cut_off_tell_how_many_words_there_are(self):
        for text in (EXAMPLE, HEAD + ". part p(): ann { bob hi . | cy ! . }", parts_of(3), within(3)):
            words = slow_words(text)
            for many in range(len(words)):
                if words[many] != "part":
                    self.at(" ".join(words[:many]), many)
        self.at("", 0)
        self.at(" \n ", 0)
        self.assertEqual(read_talk("hands(ann bob cy) begin .")[2], (None,))

    def test_a_word_left_out_twice_or_another_one(self):
        others = [".", "!", "|", "{", "}", "(", ")", ":", "*", "ann", "x", "hands", "part", "begin", "abcdefghi", "A"]
        texts = [EXAMPLE, HEAD + "ann { bob ! . | cy hi p(ann) } part p(x): x { bob hi . } part q(): ann { bob hi . }"]
        for text in texts:
            words = slow_words(text)
            for at in range(len(words)):
                for told in [[], [words[at]] * 2] + [[other] for other in others]:
                    changed = words[:at] + told + words[at + 1:]
                    number = first_wrong(changed)
                    if number is not None:
                        self.at(" ".join(changed), number)
                    else:
                        self.told_or_refused_later(" ".join(changed))

    def told_or_refused_later(self, text):
        try:
            self.assertIs(is_board(read_talk(text)), True)
        except NoText as caught:
            self.assertLess(caught.at, len(slow_words(text)))

    def test_no_text_of_anything(self):
        for thing in anything() + [(), 0, 1, b"hands", slow_words(EXAMPLE), tuple(slow_words(EXAMPLE)), ASKING]:
            if not isinstance(thing, str):
                self.at(thing, 0)
        for text in [thing for thing in anything() if isinstance(thing, str)]:
            self.at(text, 0)


class TestLaidOut(TestTexts):
    def test_an_end_is_one_place_wherever_it_stands(self):
        self.read(HEAD + ".", None)
        self.read(HEAD + "ann { bob a . | bob b cy { ann c . } | bob d . }",
                  ("ann", (("bob", "a", 1), ("bob", "b", 2), ("bob", "d", 1))), None, ("cy", (("ann", "c", 1),)))

    def test_a_saying_is_one_place_for_each_row_of_hands_of_its_part(self):
        text = HEAD + "p(ann bob) part p(x y): x { y hi y { x ok p(y x) } }"
        self.read(text, ("ann", (("bob", "hi", 1),)), ("bob", (("ann", "ok", 2),)), ("bob", (("ann", "hi", 3),)),
                  ("ann", (("bob", "ok", 0),)))
        # A parameter that nobody says or hears parts places as well.
        self.read(HEAD + "p(ann) part p(x): ann { bob hi p(cy) }", ("ann", (("bob", "hi", 1),)),
                  ("ann", (("bob", "hi", 1),)))

    def test_sayings_that_do_alike_stay_apart(self):
        self.read(HEAD + "ann { bob a cy { bob x . } | bob b cy { bob x . } }",
                  ("ann", (("bob", "a", 1), ("bob", "b", 2))), ("cy", (("bob", "x", 3),)), ("cy", (("bob", "x", 3),)),
                  None)

    def test_numbered_as_they_first_come_branches_rising(self):
        text = HEAD + "ann { cy a bob { ann x . } | bob b cy { ann y . } | bob a bob { ann z . } }"
        self.read(text, ("ann", (("bob", "a", 1), ("bob", "b", 2), ("cy", "a", 3))), ("bob", (("ann", "z", 4),)),
                  ("cy", (("ann", "y", 4),)), ("bob", (("ann", "x", 4),)), None)
        self.assertEqual(points(text), (("", (), 7), ("", (), 29), ("", (), 20), ("", (), 11), None))

    def test_a_parameter_stands_ahead_of_a_hand_of_its_name(self):
        self.read(HEAD + "p(bob ann) part p(ann x): ann { x hi cy { ann ho . } }", ("bob", (("ann", "hi", 1),)),
                  ("cy", (("bob", "ho", 2),)), None)
        self.by_word(HEAD + "p(bob ann) part p(ann x): ann { [x] hi p(cy cy) }")

    def test_parameters_are_swapped_all_at_once(self):
        text = HEAD + "p(bob ann) part p(ann bob): ann { bob hi p(bob ann) }"
        self.read(text, ("bob", (("ann", "hi", 1),)), ("ann", (("bob", "hi", 0),)))
        self.assertEqual(points(text), (("p", ("bob", "ann"), 19), ("p", ("ann", "bob"), 19)))

    def test_a_fault_stands_where_the_sayer_is_weak_and_is_left_out_elsewhere(self):
        self.by_word("hands(ann bob *cy) begin p(ann bob) part p(x y): x { [y] hi p(y cy) | y ! . }")
        text = "hands(ann bob *cy) begin p(ann bob cy) part p(x y z): x { y ! . | y hi q(y z x) } "
        self.by_word(text + "part q(x y z): x { y hi r(y z x) | y ! . } part r(x y z): [x] { y hi . }")
        self.read(text + "part q(x y z): x { y hi p(y z x) | y ! . }", ("ann", (("bob", "hi", 1),)),
                  ("bob", (("cy", "hi", 2),)), ("cy", (("ann", "!", 3), ("ann", "hi", 4))), None,
                  ("ann", (("bob", "hi", 5),)), ("bob", (("cy", "hi", 6),)),
                  ("cy", (("ann", "!", 3), ("ann", "hi", 0))), weak=("cy",))
        text = "hands(ann bob *cy) begin p(ann) part p(x): x { bob ! . | bob hi q() } "
        self.read(text + "part q(): cy { bob hi . | ann ! . }", ("ann", (("bob", "hi", 1),)),
                  ("cy", (("ann", "!", 2), ("bob", "hi", 2))), None, weak=("cy",))

    def test_thrown_talks_as_slowly_worked_out(self):
        dice = random.Random(2)
        told = {"board": 0, "NoText": 0, "TooWide": 0}
        for _ in range(1500):
            talk = Thrown(dice)
            self.assertIsNone(first_wrong(talk.words))
            text = talk.text()
            most = dice.choice([MOST, MOST, 1, 2, 3, 7])
            meant = talk.meant(most)
            told[meant[0]] += 1
            if meant[0] == "NoText":
                self.at(text, meant[1], most=most)
            elif meant[0] == "TooWide":
                for asked in (read_talk, points):
                    self.assertRaises(TooWide, asked, text, most=most)
            else:
                self.assertTrue(same((read_talk(text, most=most), points(text, most=most)), meant[1:]), text)
                self.assertEqual(in_order(meant[1]), meant[1])
        self.assertGreater(min(told.values()), 100)

    def test_at_most_so_many_places(self):
        for text, many in ((EXAMPLE, 5), (HEAD + ".", 1), (parts_of(39), 40), (within(12), 13)):
            self.assertEqual(read_talk(text, most=many), read_talk(text))
            self.assertEqual(points(text, most=many), points(text))
            for most in range(1, many):
                self.assertRaises(TooWide, read_talk, text, most=most)
                self.assertRaises(TooWide, points, text, most=most)
        self.assertEqual(MOST, 40)
        self.assertRaises(TooWide, read_talk, parts_of(40))

    def test_what_is_asked_by_name(self):
        self.assertEqual(read_talk(most=5, text=EXAMPLE), ASKING)
        self.assertEqual(points(most=5, text=EXAMPLE), points(EXAMPLE))
        for asked in (read_talk, points):
            self.assertRaises(TypeError, asked, EXAMPLE, 5)

    def test_the_same_asked_again_is_told_alike(self):
        for text in (EXAMPLE, parts_of(3)):
            first = (read_talk(text), points(text))
            self.at("hands(", 2)
            self.assertTrue(same((read_talk(text), points(text)), first))


class TestRefusals(TestTexts):
    def test_a_call_of_no_part(self):
        self.by_word(HEAD + "[nobody]() part p(): ann { bob hi . }")
        self.by_word(HEAD + ". part p(): ann { bob hi [q]() }")
        self.by_word(HEAD + "[ann]()")

    def test_a_call_of_more_or_fewer_hands(self):
        self.by_word(HEAD + "p(ann bob[)] part p(x): x { bob hi . }")
        self.by_word(HEAD + "p([)] part p(x): x { bob hi . }")
        self.by_word(HEAD + "p(ann) part p(x): x { bob hi . } part q(): ann { bob hi p([)] }")

    def test_the_first_such_call_in_the_text(self):
        self.by_word(HEAD + "p([)] part p(x): x { bob hi q() }")
        self.by_word(HEAD + "[q]() part p(x): x { bob hi p() }")

    def test_a_weak_sayer_without_fault(self):
        self.by_word("hands(*ann bob) begin [ann] { bob hi . }")
        self.by_word("hands(*ann bob) begin bob { ann hi [ann] { bob hi . } }")
        self.by_word("hands(*ann bob) begin p(bob ann) part p(x y): [x] { y hi p(y x) }")

    def test_a_hearer_that_says_itself(self):
        self.by_word(HEAD + "ann { bob hi . | [ann] hi . }")
        self.by_word(HEAD + "p(ann ann) part p(x y): x { [y] hi . }")
        self.by_word("hands(*ann bob) begin ann { [ann] ! . | bob hi . }")
        # What is left out is looked at by nobody.
        self.read(HEAD + "ann { ann ! . | bob hi . }", ("ann", (("bob", "hi", 1),)), None)
        self.read(HEAD + "ann { bob hi . | ann ! ann { ann hi . } }", ("ann", (("bob", "hi", 1),)), None)

    def test_a_word_that_went_to_the_hearer_ahead(self):
        self.by_word(HEAD + "ann { bob hi . | bob no . | [bob] hi . }")
        self.by_word(HEAD + "p(bob bob) part p(x y): ann { x hi . | [y] hi . }")
        self.by_word(HEAD + "ann { bob hi . | [bob] hi . | ann hi . }")
        self.by_word(HEAD + "ann { bob hi . | [ann] hi . | bob hi . }")
        self.read(HEAD + "ann { bob hi . | cy hi . }", ("ann", (("bob", "hi", 1), ("cy", "hi", 1))), None)

    def test_a_fault_that_leads_to_the_fallen_hand(self):
        self.by_word("hands(*ann bob) begin ann { bob [!] bob { ann hi . } | bob hi . }")
        self.by_word("hands(*ann bob cy) begin ann { bob hi . | bob [!] bob { cy hi ann { bob hi . | bob ! . } } }")
        self.by_word("hands(*ann bob) begin p() part p(): ann { bob hi p() | bob [!] p() }")
        self.read("hands(*ann bob cy) begin ann { bob ! bob { cy hi . } | bob hi . }",
                  ("ann", (("bob", "!", 1), ("bob", "hi", 2))), ("bob", (("cy", "hi", 2),)), None, weak=("ann",))

    def test_of_several_the_first_told_goes_first(self):
        # The form ahead of calls, wherever they stand.
        self.by_word(HEAD + "nobody() part p(): ann { bob hi . } [x]")
        # Calls ahead of places; parts that nobody comes to are looked at for these, too.
        self.by_word(HEAD + "ann { ann hi . } part p(): ann { bob hi [q]() }")
        self.by_word("hands(*ann bob) begin ann { bob hi [p]() }")
        # Parts that nobody comes to are looked at for nothing else.
        self.read("hands(*ann bob) begin . part p(): ann { bob hi . } part q(x): x { x hi . | x hi . }", None,
                  hands=("ann", "bob"), weak=("ann",))
        # A weak sayer's fault ahead of its hearers, the first hearer in the text ahead of others.
        self.by_word("hands(*ann bob) begin [ann] { ann hi . }")
        # Place by place, as they are numbered, not as they stand.
        self.by_word(HEAD + "ann { cy b cy { cy hi . } | bob a bob { [bob] hi . } }")
        self.by_word(HEAD + "p() part q(): bob { bob hi . } part p(): ann { [ann] hi . | bob hi q() }")
        # What is wrong in places ahead of faults that lead back.
        self.by_word("hands(*ann bob) begin ann { bob ! bob { ann hi . } | bob hi bob { [bob] hi . } }")
        # Of these the first place's, though another one's stands ahead in the text.
        self.by_word("hands(*ann bob cy) begin q() part p(): ann { bob hi . | bob ! bob { ann hi . } } "
                     "part q(): ann { cy hi p() | cy [!] cy { ann hi . } }")

    def test_too_wide_comes_place_by_place_too(self):
        text = HEAD + "ann { bob a bob { [bob] hi . } | cy b cy { ann hi . } }"
        self.by_word(text)
        bare = text.replace("[", "").replace("]", "")
        self.at(bare, slow_words(text).index("["), most=3)
        self.assertRaises(TooWide, read_talk, bare, most=2)
        self.at(HEAD + "ann { ann a . | cy b . }", 9, most=1)
        late = "hands(*ann bob) begin ann { bob ! bob { ann hi . } | bob hi . }"
        self.assertRaises(TooWide, read_talk, late, most=2)
        self.at(late, 10, most=3)


class TestInOrder(TestTexts):
    def test_one_end_and_places_as_they_first_come(self):
        board = (("ann", "bob"), (), (("ann", (("bob", "a", 3), ("bob", "b", 2), ("bob", "c", 1))), None,
                                      ("bob", (("ann", "x", 1),)), ("bob", (("ann", "y", 4),)), None))
        told = (("ann", "bob"), (), (("ann", (("bob", "a", 1), ("bob", "b", 2), ("bob", "c", 3))),
                                     ("bob", (("ann", "y", 3),)), ("bob", (("ann", "x", 3),)), None))
        with Unchanged(self, board):
            self.assertTrue(same(in_order(board), told))
        self.assertEqual(in_order(in_order(board)), told)

    def test_boards_in_order_stay_as_they_are(self):
        for board in (PAIR, ASKING, ring(2), ring(40), chain(1), chain(40), star(8)):
            self.assertTrue(same(in_order(board), board))
        self.assertEqual(in_order(BOTH)[2][1:3], (BOTH[2][1], BOTH[2][2]))
        self.assertEqual(len(in_order(ALL_KINDS)[2]), 3)

    def test_just_the_same_rows(self):
        for board in made_up_boards(60) + LET[:5] + STUCK:
            ordered = in_order(board)
            self.assertIs(is_board(ordered), True)
            self.assertEqual(ordered[:2], board[:2])
            self.assertEqual([row for row, _ in all_rows(board, 4)], [row for row, _ in all_rows(ordered, 4)])
            self.assertLessEqual(ordered[2].count(None), 1)
            sayings = len(board[2]) - board[2].count(None)
            self.assertEqual(len(ordered[2]) - ordered[2].count(None), sayings)
            self.assertEqual(self.as_they_come(ordered), list(range(len(ordered[2]))))
            for row, _ in all_rows(board, 3):
                self.assertIs(is_row(ordered, row), True)

    def as_they_come(self, board):
        told = [0]
        for at in told:
            for _, _, then in board[2][at][1] if board[2][at] else ():
                if then not in told:
                    told.append(then)
        return told

    def test_by_name_and_alike(self):
        self.assertEqual(in_order(board=BOTH), in_order(BOTH))

    def test_no_board_of_anything(self):
        for thing in anything() + [(), 0, EXAMPLE, chain(41)]:
            for asked in (in_order, talk_text):
                with self.subTest(thing=thing), Unchanged(self, thing):
                    self.assertRaises(NoBoard, asked, thing)


class TestWritten(TestTexts):
    def test_written_to_the_sign(self):
        self.assertEqual(talk_text(chain(1)), "hands(ann bob)\nbegin .")
        self.assertEqual(talk_text(PAIR), "hands(ann bob)\nbegin aa()\npart aa(): ann { bob hi . }")
        self.assertEqual(
            talk_text(ASKING),
            "hands(ann bob *cy)\nbegin aa()\n"
            "part aa(): ann { bob want ab() | cy note . }\n"
            "part ab(): bob { ann no ad() | ann yes . }\n"
            "part ad(): bob { ann want ae() | cy note . }\n"
            "part ae(): ann { bob no aa() | bob yes . }",
        )
        self.assertEqual(
            talk_text((("cy", "ann", "bob"), ("ann", "bob"), (None,))), "hands(cy *ann *bob)\nbegin ."
        )

    def test_parts_are_named_by_two_letters_by_their_numbers_in_order(self):
        lines = talk_text(ring(40)).split("\n")
        self.assertEqual(len(lines), 42)
        self.assertEqual(lines[2], "part aa(): ann { bob hi ab() }")
        self.assertEqual(lines[27], "part az(): bob { ann hi ba() }")
        self.assertEqual(lines[28], "part ba(): ann { bob hi bb() }")
        self.assertEqual(lines[41], "part bn(): bob { ann hi aa() }")
        # Numbers are those in order, though the board isn't.
        self.assertIn("part ab(): bob { ann x ac() }", talk_text(
            (("ann", "bob"), (), (("ann", (("bob", "a", 2),)), None, ("bob", (("ann", "x", 3),)),
                                  ("bob", (("ann", "y", 1),))))
        ))

    def test_read_it_is_the_same_board_in_order(self):
        for board in BOARDS + LET + STUCK + made_up_boards(150):
            with Unchanged(self, board):
                text = talk_text(board)
                self.assertTrue(same(read_talk(text), in_order(board)))
                self.assertEqual(talk_text(read_talk(text)), text)
                self.assertEqual(len(points(text)), len(in_order(board)[2]))

    def test_by_name_and_alike(self):
        self.assertEqual(talk_text(board=BOTH), talk_text(BOTH))


if __name__ == "__main__":
    unittest.main()
