"""Desks: a house that is told lines, and answers by texts."""

from sayloom.covers import row_of
from sayloom.editions import check_room
from sayloom.errors import NoDeed, NoHand, NoPlace
from sayloom.halls import written
from sayloom.house import House
from sayloom.lines import (
    BETWEEN_DEEDS, NONE, parsed, written_deeds, written_fault, written_log, written_sayings, written_view,
)
from sayloom.making import MADE, made
from sayloom.stands import ROOM
from sayloom.texts import read_talk, talk_text

OK = "ok"


class Desk:
    """A room, and a house, at first none."""

    def __init__(self, *, room=ROOM):
        check_room(room)
        self.room = room
        self._house = None
        self._told = 0
        self._refused = 0

    def say(self, line):
        """Does or asks what a line tells; tells the answer."""
        self._told += 1
        self._refused += 1
        answer = self._answer(parsed(line))
        self._refused -= 1
        return answer

    def _answer(self, line):
        word = line[0]
        if word == "talk":
            self._house = House(read_talk(line[1]), room=self.room)
            return OK
        if word == "look":
            return looked_at(read_talk(line[1]))
        if self._house is None:
            raise NoDeed("there is no house")
        if word == "back":
            self._house.back()
            return OK
        if word == "all":
            deeds = tuple([deed_of(row) for row in line[1]])
            told = self._house.all_of(deeds)
            return BETWEEN_DEEDS.join([written_answer(deed, one) for deed, one in zip(deeds, told)])
        if word in ASKING:
            ask = ASKING[word]
            return ask(self._house, line)
        deed = deed_of(line)
        return written_answer(deed, self._do(deed))

    def _do(self, deed):
        """Does a deed by itself."""
        word = deed[0]
        if word == "publish":
            return self._house.publish(deed[1])
        if word == "change":
            return self._house.change(deed[1])
        if word == "begin":
            return self._house.begin()
        if word == "do":
            return self._house.do(deed[1])
        return self._house.end() if word == "end" else self._house.drop()

    def house(self):
        """A twin of the house, or None."""
        return None if self._house is None else self._house.twin()

    def counts(self):
        """The pair of how much the desk was told, and how much of it was refused."""
        return self._told, self._refused

    def __len__(self):
        return len(range(self._told))

    def __repr__(self):
        return f"Desk({self._told} told, {self._refused} refused)"


def deed_of(line):
    """The deed of a house that a line tells; refuses the text of a talk that is none."""
    if line[0] == "next":
        return "publish", read_talk(line[1])
    if line[0] in ("say", "hear", "fall"):
        return "do", line
    return line


def written_answer(deed, told):
    """What a house tells of a deed as a text."""
    if deed[0] == "do":
        return written(told)
    if deed[0] == "end":
        return written_log(told)
    return OK if deed[0] == "drop" else str(told)


def looked_at(board):
    """Whether a board is let, or a paper by which it is stuck, as a text."""
    kind, paper = made(board)
    if kind == MADE:
        return "let"
    kind, hand, row, other = paper
    return f"stuck {kind} {hand} / {written_sayings(row)} / {written_sayings(other)}"


def edition_of(house, number):
    """The edition of a number; refuses a number that none has."""
    if number >= len(house.editions()):
        raise NoPlace(number)
    return house.editions()[number]


def ask_can(house, _):
    """All deeds that can be done."""
    return written_deeds(house.can_do())


def ask_way(house, line):
    """A shortest way of a hand."""
    return written_deeds(house.way_on(line[1]))


def ask_view(house, line):
    """The view of a hand."""
    if line[1] not in house.editions()[0][0]:
        raise NoHand(line[1])
    return written_view(house.views().get(line[1], ()))


def ask_cover(house, _):
    """A row that covers the run that is on."""
    if not house.is_on() or len(set(house.mix())) > 1:
        raise NoDeed("no run of one edition is on")
    _, row = row_of(house.editions()[house.mix()[0]], house.log())
    return written_sayings(row)


def ask_judge(house, line):
    """Whether some row of an edition covers a log."""
    kind, number = row_of(edition_of(house, line[1]), line[2])
    return "covered" if kind == "row" else f"wrong {number}"


def ask_bar(house, line):
    """How the run to a fault ends that bars a hand's next edition."""
    run = house.bar(line[1])
    return NONE if run is None else written_fault(run)


def ask_text(house, line):
    """The text of an edition, with a blank for each line end."""
    return talk_text(edition_of(house, line[1])).replace("\n", " ")


def ask_house(house, _):
    """The house as a text."""
    return str(house)


ASKING = {
    "can": ask_can,
    "way": ask_way,
    "view": ask_view,
    "cover": ask_cover,
    "judge": ask_judge,
    "bar": ask_bar,
    "text": ask_text,
    "house": ask_house,
}
