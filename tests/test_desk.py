"""The desk (14.1 to 14.4), and the interface's part sayloom/desk.py."""

import random
import re
import unittest

from sayloom.covers import covers, row_of
from sayloom.desk import Desk
from sayloom.errors import Empty, Full, LoomError, NoDeed, NoEnds, NoHand, NoPlace, NoRoom, NoRow, NoText, TooWide
from sayloom.house import House
from sayloom.making import made
from sayloom.rows import is_row
from sayloom.stuck import shows_stuck
from sayloom.texts import read_talk, talk_text
from sayloom.ways import shows_way
from sayloom.halls import hall_behind
from tests.kinds import ALONE, GONE, LET, ROUND, TOO_WIDE
from tests.samples import PAIR, Unchanged, anything, same
from tests.talks_of_editions import ALL, ASKING_TWO, COMING, MORE
from tests.test_halls import bears
from tests.test_house import EVER, told_of

REFUSALS = (LoomError, NoHand, NoPlace, Empty, Full)
GONE_TEXT = talk_text(GONE)
PAIR_TEXT = talk_text(PAIR)
STUCK_TEXT = "hands(ann bob cy) begin ann { bob hi . | cy yes . }"


def desk_of(*lines, room=1):
    desk = Desk(room=room)
    for line in lines:
        desk.say(line)
    return desk


def all_of(desk):
    """All that a desk tells, and its house, but the counts."""
    return None if desk.house() is None else told_of(desk.house())


class TestNewDesks(unittest.TestCase):
    def test_the_begin(self):
        desk = Desk()
        self.assertEqual((desk.room, desk.house(), desk.counts(), len(desk)), (1, None, (0, 0), 0))
        self.assertEqual(repr(desk), "Desk(0 told, 0 refused)")
        self.assertEqual(Desk(room=9).room, 9)
        for room in [0, 10, -1, None, True, "1", [1], (1,), 10 ** 39]:
            self.assertRaises(NoRoom, Desk, room=room)

    def test_a_talk(self):
        desk = Desk(room=2)
        self.assertEqual(desk.say(line="talk " + GONE_TEXT), "ok")
        self.assertEqual(desk.house(), House(GONE, room=2))
        self.assertEqual(desk.say("house"), "3 hands, 1 editions, mix 0,0,0, off")
        self.assertEqual(desk.say("begin"), "0")
        self.assertEqual(desk.say("can"), "fall ann ; say ann bob go")
        self.assertEqual(desk.say("way cy"), "say ann bob go ; hear bob ann ; say bob cy go ; hear cy bob")
        self.assertEqual(desk.say("say ann bob go"), "ann>bob:go")
        self.assertEqual(desk.say("way ann"), "none")
        self.assertEqual(desk.say("fall ann"), "ann!")
        self.assertEqual(desk.say("hear bob ann"), "bob<ann:go")
        self.assertEqual((desk.say("view bob"), desk.say("view ann"), desk.say("view cy")), ("<ann:go", ">bob:go", "none"))
        self.assertEqual(desk.say("cover"), "ann>bob:go")
        self.assertEqual(desk.say("house"), "3 hands, 1 editions, mix 0,0,0, on")
        self.assertRaises(NoDeed, desk.say, "end")
        self.assertEqual(desk.say("say bob cy go"), "bob>cy:go")
        self.assertEqual(desk.say("view bob"), "<ann:go >cy:go")
        self.assertEqual(desk.say("hear cy bob"), "cy<bob:go")
        self.assertEqual(desk.say("can"), "none")
        self.assertEqual(desk.say("end"), "ann>bob:go ann! bob<ann:go bob>cy:go cy<bob:go")
        self.assertEqual(desk.say("begin"), "1")
        self.assertEqual((desk.say("cover"), desk.say("drop"), desk.say("back"), desk.say("back")), ("none", "ok", "ok", "ok"))
        self.assertEqual((len(desk.house()), desk.counts(), repr(desk)), (1, (25, 1), "Desk(25 told, 1 refused)"))

    def test_a_fault_heard(self):
        desk = desk_of("talk " + GONE_TEXT, "begin", "fall ann")
        self.assertEqual(desk.say("hear bob ann"), "bob<ann:!")
        self.assertEqual((desk.say("view bob"), desk.say("cover")), ("<ann:!", "ann>bob:!"))

    def test_an_end_without_deeds(self):
        desk = desk_of("talk hands(ann bob) begin .", "begin")
        self.assertEqual((desk.say("end"), desk.say("all begin ; end"), desk.say("judge 0 none")), ("none", "1 ; none", "covered"))

    def test_a_new_house_in_the_place_of_the_elder(self):
        desk = desk_of("talk " + GONE_TEXT, "begin")
        for line, error in (("talk ", NoText), ("talk " + STUCK_TEXT, NoEnds), ("talk " + talk_text(TOO_WIDE), TooWide),
                            ("talk hands(ann bob) begin a() part a(): ann { ann hi . }", NoText)):
            self.assertRaises(error, desk.say, line)
            self.assertEqual(desk.say("house"), "3 hands, 1 editions, mix 0,0,0, on")
        desk.say("talk " + PAIR_TEXT)
        self.assertEqual(desk.house(), House(PAIR))


class TestLooks(unittest.TestCase):
    def test_let(self):
        desk = Desk()
        for board in LET:
            self.assertEqual(desk.say("look " + talk_text(board)), "let")
        self.assertIsNone(desk.house())

    def test_stuck(self):
        desk = Desk()
        for board in list(ALONE.values()) + [read_talk(STUCK_TEXT)]:
            board = read_talk(talk_text(board))
            told = re.fullmatch("stuck ([a-z]+) ([a-z]+) / (.*) / (.*)", desk.say("look " + talk_text(board)))
            kind, hand, *rows = told.groups()
            rows = [() if row == "none" else tuple(tuple(re.split("[>:]", word)) for word in row.split(" ")) for row in rows]
            self.assertTrue(shows_stuck(board, (kind, hand, *rows)))

    def test_a_row_without_sayings_is_none(self):
        # Behind no saying ann may say what she says behind bob's word.
        desk = Desk()
        found = [desk.say("look " + talk_text(board)) for board in ALONE.values()]
        self.assertTrue([told for told in found if told.endswith(" / none")])

    def test_refused(self):
        desk = Desk()
        for line, at in (("look ", 0), ("look hands", 1), ("look hands(ann ann) begin .", 3), ("look  ", 0)):
            with self.assertRaises(NoText) as caught:
                desk.say(line)
            self.assertEqual(caught.exception.at, at)
        self.assertRaises(TooWide, desk.say, "look " + talk_text(TOO_WIDE))
        self.assertRaises(NoDeed, desk.say, "look")
        self.assertEqual(desk.counts(), (6, 6))


class TestEditions(unittest.TestCase):
    def test_next_change_bar(self):
        desk = desk_of("talk " + talk_text(ASKING_TWO[0]))
        self.assertEqual(desk.say("next " + talk_text(ASKING_TWO[1])), "1")
        self.assertEqual(desk.say("bar ann"), "waits ann bob")
        self.assertEqual(desk.say("bar bob"), "none")
        self.assertRaises(NoEnds, desk.say, "change ann")
        self.assertEqual((desk.say("change bob"), desk.say("bar ann"), desk.say("change ann")), ("1", "none", "1"))
        self.assertEqual(desk.say("house"), "3 hands, 2 editions, mix 1,1,0, off")
        self.assertRaises(NoDeed, desk.say, "change ann")
        self.assertEqual(desk.say("text 1"), talk_text(ASKING_TWO[1]).replace("\n", " "))
        self.assertNotIn("\n", desk.say("text 0"))
        self.assertEqual(read_talk(desk.say("text 0")), ASKING_TWO[0])

    def test_bars_of_both_kinds(self):
        for editions in ALL:
            desk = desk_of("talk " + talk_text(editions[0]), *["next " + talk_text(board) for board in editions[1:]])
            house = desk.house()
            for hand in editions[0][0]:
                bar = house.bar(hand)
                told = desk.say("bar " + hand)
                if bar is None:
                    self.assertEqual(told, "none")
                elif bar[1][0] == "left":
                    self.assertEqual(told, f"left {bar[1][1]} {bar[1][2]}")
                else:
                    self.assertEqual(told, f"waits {bar[1][1]} {','.join(bar[1][2])}")
        desk = desk_of("talk " + talk_text(MORE[0]), "next " + talk_text(MORE[1]))
        self.assertEqual((desk.say("bar ann"), desk.say("bar bob")), ("left ann bob", "waits bob ann"))

    def test_who_waits_for_several(self):
        desk = desk_of("talk hands(ann bob cy) begin ann { bob hi . }",
                       "next hands(ann bob cy) begin ann { bob go bob { cy on cy { bob ok . } } | cy go cy { bob on bob { cy ok . } } }")
        told = [desk.say("bar " + hand) for hand in ("ann", "bob", "cy")]
        self.assertIn("waits cy ann,bob", told)

    def test_cover_needs_one_edition(self):
        desk = desk_of("talk " + talk_text(ASKING_TWO[0]), "next " + talk_text(ASKING_TWO[1]))
        self.assertRaises(NoDeed, desk.say, "cover")
        desk.say("change bob")
        desk.say("begin")
        self.assertRaises(NoDeed, desk.say, "cover")
        desk.say("drop")
        for line in ("change ann", "change cy", "begin", "say ann bob hey"):
            desk.say(line)
        self.assertEqual(desk.say("cover"), "ann>bob:hey")

    def test_judge(self):
        desk = desk_of("talk " + talk_text(GONE))
        log = "ann>bob:go ann! bob<ann:go bob>cy:go cy<bob:go"
        self.assertEqual(desk.say("judge 0 " + log), "covered")
        self.assertEqual(desk.say("judge 0 none"), "covered")
        self.assertEqual(desk.say("judge 0 ann!"), "covered")
        self.assertEqual(desk.say("judge 0 ann>bob:no"), "wrong 0")
        self.assertEqual(desk.say("judge 0 ann! bob<ann:! bob>cy:go"), "wrong 2")
        self.assertEqual(desk.say("judge 0 ann>bob:go bob<ann:go bob>cy:gone bob>cy:go"), "wrong 2")
        for line in ("judge 0 bob<ann:go", "judge 0 bob!", "judge 0 ann! ann!", "judge 0 eve>bob:hi", "judge 0 ann>ann:hi",
                     "judge 0 ann! ann>bob:go", "judge 0 bob<ann:!", "judge 0 none>ann:hi"):
            self.assertRaises(NoRow, desk.say, line)
        for number in ("1", "4", "9" * 20, "10"):
            with self.assertRaises(NoPlace) as caught:
                desk.say(f"judge {number} bob<ann:go")
            self.assertTrue(same(caught.exception.place, int(number)))
            with self.assertRaises(NoPlace) as caught:
                desk.say("text " + number)
            self.assertTrue(same(caught.exception.place, int(number)))

    def test_judge_of_the_second_edition(self):
        desk = desk_of("talk " + talk_text(COMING[0]), "next " + talk_text(COMING[1]))
        log = "ann>bob:go bob<ann:go bob>cy:"
        self.assertEqual([desk.say(f"judge {number} {log}{word}") for number in "01" for word in ("go", "come")],
                         ["covered", "wrong 2", "wrong 2", "covered"])


class TestAll(unittest.TestCase):
    def test_all_or_none(self):
        desk = desk_of("talk " + PAIR_TEXT)
        told = desk.say("all begin ; say ann bob hi ; hear bob ann ; end ; begin ; drop ; next " + PAIR_TEXT + " ; change bob")
        self.assertEqual(told, "0 ; ann>bob:hi ; bob<ann:hi ; ann>bob:hi bob<ann:hi ; 1 ; ok ; 1 ; 1")
        ahead = all_of(desk)
        for line, error in (
            ("all begin ; say ann bob hi ; hear bob ann ; drop ; change eve", NoHand), ("all begin ; hear bob ann", Empty),
            ("all begin ; end", NoDeed), ("all begin ; next hands(ann bob cy) begin .", LoomError), ("all drop", NoDeed),
            ("all change bob", NoDeed), ("all next hands(ann bob) begin . ; begin ; fall ann", NoDeed),
        ):
            self.assertRaises(error, desk.say, line)
            self.assertEqual(all_of(desk), ahead)
        self.assertEqual(desk.counts(), (9, 7))
        self.assertEqual(desk.say("all begin"), "1")
        self.assertEqual(desk.say("back"), "ok")
        self.assertEqual(desk.say("back"), "ok")
        self.assertEqual(desk.house(), House(PAIR))

    def test_one_line_that_is_none(self):
        desk = desk_of("talk " + PAIR_TEXT)
        good = ["begin", "say ann bob hi", "drop"]
        for bad in ("", " begin", "begin ", "can", "way ann", "view ann", "cover", "judge 0 none", "bar ann", "text 0", "house",
                    "back", "talk " + PAIR_TEXT, "look " + PAIR_TEXT, "all begin", "next", "begin ;", "; begin", "say ann bob",
                    "Begin", "say ann bob Hi", "hear bob ann hi", "fall", "drop drop", "change", "end 0"):
            for at in range(4):
                self.assertRaises(NoDeed, desk.say, "all " + " ; ".join(good[:at] + [bad] + good[at:]))
        for line in ("all", "all ", "all  begin", "all begin ; ", "all  ; begin", "all begin;drop", "all begin ;drop", "all\nbegin"):
            self.assertRaises(NoDeed, desk.say, line)
        self.assertEqual(desk.house().book(), ())

    def test_texts_are_read_ahead_of_all_deeds(self):
        desk = desk_of("talk " + PAIR_TEXT)
        with self.assertRaises(NoText) as caught:
            desk.say("all drop ; change eve ; next hands(ann bob) begin ; next ")
        self.assertEqual(caught.exception.at, 6)
        self.assertRaises(NoText, desk.say, "all begin ; next ")
        # It is parted ahead of all else, within a text too.
        self.assertRaises(NoDeed, desk.say, "all next hands(ann bob) ; begin .")
        # No line by its words ahead of a text that is none.
        self.assertRaises(NoDeed, desk.say, "all next hands ; can")
        self.assertFalse(desk.house().is_on())

    def test_many_alls_within(self):
        desk = desk_of("talk " + PAIR_TEXT)
        self.assertRaises(NoDeed, desk.say, "all " * 5000 + "begin")
        self.assertRaises(NoDeed, desk.say, "all all begin")


class TestRefusals(unittest.TestCase):
    LINES = [
        "", " ", "begin ", " begin", "begin  ", "Begin", "begin 0", "begins", "begin\n", "\nbegin", "change", "change ", "change Ann",
        "change ann ", "change ann bob", "change annabella", "change an1", "say", "say ann", "say ann bob", "say ann bob ",
        "say ann  bob hi", "say ann bob hi ", "say ann bob Hi", "say ann bob !", "say ann bob hi hi", "hear bob", "hear bob ann hi",
        "hear bob ann ", "fall", "fall ann bob", "fall Ann", "end ann", "drop 0", "back 1", "can ann", "way", "way ann bob", "view",
        "view ann ann", "cover 0", "bar", "bar 0", "text", "text ", "text 00", "text 01", "text -1", "text +1", "text 1 1", "text a",
        "text 1a", "text \u0661", "text \u00b2", "text " + "1" * 21, "text " + "0" * 20, "text 1_0", "house ann", "judge", "judge 0",
        "judge 0 ", "judge none", "judge 00 none", "judge 0 none none", "judge 0 none ann!", "judge 0 ann! none", "judge 0  ann!",
        "judge 0 ann", "judge 0 ann!!", "judge 0 !", "judge 0 Ann!", "judge 0 ann>bob", "judge 0 ann>bob:", "judge 0 ann>bob:!",
        "judge 0 ann<bob:", "judge 0 ann<bob:Hi", "judge 0 >bob:hi", "judge 0 ann>:hi", "judge 0 ann>bob:hi:no", "judge 0 ann>bob>cy:hi",
        "judge 0 ann>bob<cy:hi", "judge 0 ann:bob>hi", "judge 0 ann<bob!", "judge 0 annabella!", "judge 0 ann>bob:hi ",
        "judge " + "1" * 21 + " none", "judge -1 none", "talk", "look", "next", "all", "talks", "house ", "drive", "publish", "all ",
        "say ann bob hi ; fall ann", "begin ; drop", "begin\tdrop", "\u0430nn", "can\u00a0", "none", "ok", "let",
    ]

    def test_no_line_by_its_words(self):
        desk = desk_of("talk " + GONE_TEXT, "begin")
        ahead = all_of(desk)
        for line in self.LINES:
            with self.subTest(line=line):
                self.assertRaises(NoDeed, desk.say, line)
                self.assertRaises(NoDeed, Desk().say, line)
        for thing in anything():
            with self.subTest(thing=thing), Unchanged(self, thing):
                self.assertRaises(NoDeed, desk.say, thing)
        self.assertEqual(all_of(desk), ahead)
        many = len(self.LINES) + len(anything())
        self.assertEqual((desk.counts(), len(desk)), ((many + 2, many), many + 2))

    def test_where_there_is_no_house(self):
        desk = Desk()
        lines = ["next hands", "next " + PAIR_TEXT, "change ann", "begin", "say ann bob hi", "hear bob ann", "fall ann", "end", "drop",
                 "back", "all next hands", "all begin ; drop", "can", "way ann", "view eve", "cover", "judge 0 none", "judge 9 ann!",
                 "bar ann", "text 0", "text 99", "house"]
        for line in lines:
            self.assertRaises(NoDeed, desk.say, line)
        self.assertEqual(desk.say("look " + PAIR_TEXT), "let")
        self.assertEqual((desk.counts(), repr(desk)), ((len(lines) + 1, len(lines)), f"Desk({len(lines) + 1} told, {len(lines)} refused)"))

    def test_as_the_house(self):
        desk = desk_of("talk " + talk_text(GONE))
        for line, error in (("change eve", NoHand), ("change ann", NoDeed), ("end", NoDeed), ("drop", NoDeed), ("fall ann", NoDeed),
                            ("say eve bob hi", NoDeed), ("next " + STUCK_TEXT, NoEnds), ("next " + PAIR_TEXT, LoomError),
                            ("way eve", NoHand), ("view eve", NoHand), ("bar eve", NoHand), ("next ", NoText)):
            self.assertRaises(error, desk.say, line)
        desk.say("begin")
        for line, error in (("say eve bob hi", NoHand), ("say ann eve hi", NoHand), ("hear bob bob", NoHand), ("hear bob ann", Empty),
                            ("say ann bob hi", NoDeed), ("fall bob", NoDeed), ("begin", NoDeed), ("way eve", NoHand),
                            ("view eve", NoHand), ("change bob", NoDeed)):
            with self.assertRaises(error) as caught:
                desk.say(line)
            if error is NoHand:
                self.assertEqual(caught.exception.hand, "bob" if "bob bob" in line else "eve")
        for line in ("way ann", "view ann"):
            desk.say(line)
        wide = desk_of("talk " + talk_text(EVER), "next " + talk_text(EVER), room=9)
        for line in ("change ann", "bar ann"):
            self.assertRaises(TooWide, wide.say, line)
        wide.say("begin")
        for _ in range(9):
            wide.say("say ann bob hi")
        with self.assertRaises(Full) as caught:
            wide.say("say ann bob no")
        self.assertEqual(bears(caught.exception), ("ann", "bob"))

    def test_where_no_run_is_on(self):
        desk = desk_of("talk " + GONE_TEXT)
        self.assertEqual([desk.say(line) for line in ("can", "way ann", "view ann")], ["none"] * 3)
        for line in ("way eve", "view eve"):
            with self.assertRaises(NoHand) as caught:
                desk.say(line)
            self.assertEqual(caught.exception.hand, "eve")
        self.assertRaises(NoDeed, desk.say, "cover")

    def test_just_all_numbers(self):
        desk = desk_of("talk " + GONE_TEXT)
        for number in ("0", "1", "9" * 20, "1" + "0" * 19):
            if number == "0":
                desk.say("text 0")
            else:
                self.assertRaises(NoPlace, desk.say, "text " + number)


class TestThrown(unittest.TestCase):
    def test_as_houses_do(self):
        dice = random.Random(3)
        for editions in ALL + [(GONE,), (ROUND,), (PAIR,)]:
            desk, house = desk_of("talk " + talk_text(editions[0])), House(read_talk(talk_text(editions[0])))
            for _ in range(40):
                line, call = self.thrown(house, editions, dice)
                try:
                    expected = call()
                except REFUSALS as caught:
                    self.assertRaises(type(caught), desk.say, line)
                else:
                    self.assertEqual(desk.say(line), expected)
                self.assertEqual(desk.house(), house)
                self.look_over(desk, house)

    def thrown(self, house, editions, dice):
        hand = dice.choice(house.editions()[0][0])
        board = read_talk(talk_text(dice.choice(editions)))
        some = [
            ("next " + talk_text(board), lambda: str(house.publish(board))), ("change " + hand, lambda: str(house.change(hand))),
            ("begin", lambda: str(house.begin())), ("end", lambda: self.written(house.end())),
            ("back", lambda: house.back() or "ok"), ("drop", lambda: house.drop() or "ok"),
        ]
        if house.can_do() and dice.random() < 0.8:
            deed = dice.choice(house.can_do())
            return " ".join(deed), lambda: self.written((house.do(deed),))
        return dice.choice(some)

    def written(self, log):
        return " ".join(row[1] + "!" if row[0] == "fall" else
                        f"{row[1]}{'>' if row[0] == 'say' else '<'}{row[2]}:{row[3]}" for row in log) or "none"

    def look_over(self, desk, house):
        self.assertEqual(desk.say("can"), " ; ".join(" ".join(deed) for deed in house.can_do()) or "none")
        hands = house.editions()[0][0]
        for hand in hands:
            way = desk.say("way " + hand)
            self.assertEqual(way == "none", house.way_on(hand) is None)
            if way != "none":
                deeds = tuple(tuple(deed.split(" ")) for deed in way.split(" ; "))
                ends = tuple(made(house.editions()[number])[1][at] for at, number in enumerate(house.mix()))
                weak = tuple(sorted(h for h, number in zip(hands, house.mix()) if h in house.editions()[number][1]))
                hall = hall_behind(ends, house.log(), room=1, weak=weak)
                self.assertTrue(shows_way(hall, deeds, hand=hand))
                self.assertEqual(len(deeds), len(house.way_on(hand)))
            view = house.views().get(hand, ())
            self.assertEqual(desk.say("view " + hand), self.written([(kind, "", *rest) for kind, *rest in view]))
        if house.is_on() and len(set(house.mix())) == 1:
            board = house.editions()[house.mix()[0]]
            told = desk.say("cover")
            row = () if told == "none" else tuple(tuple(re.split("[>:]", word)) for word in told.split(" "))
            self.assertTrue(is_row(board, row) and covers(board, house.log(), row))
        for number, board in enumerate(house.editions()):
            self.assertEqual(desk.say(f"text {number}"), talk_text(board).replace("\n", " "))
            kind, told = row_of(board, house.log()) if set(board[1]) >= set(self.fell(house)) else (None, None)
            if kind:
                expected = "covered" if kind == "row" else f"wrong {told}"
                self.assertEqual(desk.say(f"judge {number} {self.written(house.log())}"), expected)

    def fell(self, house):
        return [row[1] for row in house.log() if row[0] == "fall"]


if __name__ == "__main__":
    unittest.main()
