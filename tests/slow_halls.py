"""A hall that keeps nothing but its log, and works all else out from it, as the document tells (6.2 to 6.5)."""

from sayloom.errors import Empty, Full, NoDeed, NoHand
from tests.machines import walk


class SlowHall:
    def __init__(self, ends, room, weak):
        self.ends, self.room, self.weak = ends, room, weak
        self.hands = [end[0] for end in ends]
        self.log = []
        self.marks = []
        self.calls = self.refused = 0

    def view(self, hand):
        return tuple((row[0],) + row[2:] for row in self.log if row[1] == hand and row[0] != "fall")

    def state(self, hand):
        return walk(self.ends[self.hands.index(hand)], self.view(hand))

    def events(self, hand):
        return [step[:3] for step in self.ends[self.hands.index(hand)][1][self.state(hand)]]

    def fallen(self):
        return tuple(sorted(row[1] for row in self.log if row[0] == "fall"))

    def road(self, sayer, hearer):
        road = []
        fell = []
        for row in self.log:
            if row[0] == "fall":
                if row[1] == hearer:
                    road = []
                elif row[1] == sayer and hearer not in fell:
                    road.append("!")
                fell.append(row[1])
            elif row[:3] == ("say", sayer, hearer) and hearer not in fell:
                road.append(row[3])
            elif row[:3] == ("hear", hearer, sayer):
                assert road.pop(0) == row[3]
        return tuple(road)

    def look(self, deed):
        """The row of the log that a deed makes, or the class that refuses it and what that bears."""
        lengths = {"say": 4, "hear": 3, "fall": 2}
        if not isinstance(deed, tuple) or not deed or not isinstance(deed[0], str):
            return NoDeed, ()
        if lengths.get(deed[0]) != len(deed):
            return NoDeed, ()
        for at in range(1, 2 if deed[0] == "fall" else 3):
            if deed[at] not in self.hands or at == 2 and deed[1] == deed[2]:
                return NoHand, (deed[at],)
        hand = deed[1]
        if hand in self.fallen():
            return NoDeed, ()
        if deed[0] == "fall":
            return deed if hand in self.weak else (NoDeed, ())
        if deed[0] == "say":
            if ("say",) + deed[2:] not in self.events(hand):
                return NoDeed, ()
            if self.room is not None and len(self.road(hand, deed[2])) >= self.room:
                return Full, (hand, deed[2])
            return deed
        road = self.road(deed[2], hand)
        if not road:
            return Empty, (deed[2], hand)
        if ("hear", deed[2], road[0]) not in self.events(hand):
            return NoDeed, ()
        return deed + road[:1]

    def can_do(self):
        deeds = [("fall", hand) for hand in self.hands]
        deeds += [("hear", one, two) for one in self.hands for two in self.hands]
        words = {step[2] for _, states in self.ends for state in states for step in state}
        deeds += [("say", one, two, word) for one in self.hands for two in self.hands for word in words]
        return tuple(sorted(deed for deed in deeds if not isinstance(self.look(deed)[0], type)))

    def do(self, deeds):
        """Does deeds, all or none; tells the row of rows, or what refuses the first that is refused."""
        mark = len(self.log)
        for deed in deeds:
            row = self.look(deed)
            if isinstance(row[0], type):
                del self.log[mark:]
                return row
            self.log.append(row)
        self.marks.append(mark)
        return tuple(self.log[mark:])


def bears(caught):
    """What an error of a hall bears."""
    if isinstance(caught, NoHand):
        return (caught.hand,)
    return (caught.sayer, caught.hearer) if isinstance(caught, (Empty, Full)) else ()
