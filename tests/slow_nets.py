"""A net that keeps nothing but its deeds, and works all else out from them, as the document tells (10.1 to 10.3)."""

from sayloom.errors import Full, NoDeed, NoHand
from tests.machines import walk

LENGTHS = {"say": 4, "again": 2, "lose": 2, "double": 2, "carry": 2, "fall": 2, "mark": 3}


class SlowNet:
    def __init__(self, ends, weak):
        self.ends, self.weak = ends, weak
        self.hands = [hand for hand, _ in ends]
        self.deeds = []
        self.calls = self.refused = 0

    def replay(self):
        """All that the deeds make: what was done in order, the copies, numbers, words under way, marks."""
        told = {"rows": [], "copies": {}, "said": {}, "under": {}, "marks": set(), "heard": {}, "fallen": {}}
        for deed in self.deeds:
            self.go(told, deed)
        return told

    def go(self, told, deed):
        """Does a deed that can be done; tells the row or None."""
        row = None
        if deed[0] == "say":
            _, hand, hearer, word = deed
            told["said"][hand] = told["said"].get(hand, 0) + 1
            row = deed
            if (hand, hearer) not in told["marks"]:
                told["under"][hand] = ("word", hand, hearer, told["said"][hand], word)
                add(told, told["under"][hand], 1)
        elif deed[0] == "again":
            add(told, told["under"][deed[1]], 1)
        elif deed[0] in ("lose", "double"):
            add(told, deed[1], 1 if deed[0] == "double" else -1)
        elif deed[0] == "fall":
            told["fallen"][deed[1]] = told["under"].pop(deed[1], None)
            row = deed
        elif deed[0] == "mark":
            _, hand, other = deed
            told["marks"].add((hand, other))
            if told["under"].get(hand, (0, 0, 0))[2] == other:
                del told["under"][hand]
            if self.can(told, hand, ("hear", other, "!")) and ("hear", hand, other, "!") not in told["rows"]:
                row = ("hear", hand, other, "!")
        else:
            add(told, deed[1], -1)
            row = self.comes(told, deed[1])
        if row:
            told["rows"].append(row)
        return row

    def comes(self, told, copy):
        if copy[0] == "answer":
            if told["under"].get(copy[2], (0, 0, 0, 0))[3] == copy[3]:
                del told["under"][copy[2]]
            return None
        _, sayer, hand, number, word = copy
        if hand in told["fallen"]:
            return None
        if number <= told["heard"].get((hand, sayer), 0):
            add(told, ("answer", hand, sayer, number), 1)
            return None
        if ("hear", hand, sayer, "!") in told["rows"] or not self.can(told, hand, ("hear", sayer, word)):
            return None
        told["heard"][hand, sayer] = number
        add(told, ("answer", hand, sayer, number), 1)
        return "hear", hand, sayer, word

    def view(self, told, hand):
        return tuple((row[0],) + row[2:] for row in told["rows"] if row[1] == hand and row[0] != "fall")

    def can(self, told, hand, event):
        end = self.ends[self.hands.index(hand)]
        return event in [step[:3] for step in end[1][walk(end, self.view(told, hand))]]

    def log(self, told):
        rows = list(told["rows"])
        for hand, copy in told["fallen"].items():
            if copy is None or told["heard"].get((copy[2], hand), 0) >= copy[3]:
                continue
            # The last say of the hand is that of the word under way.
            at = max(at for at, row in enumerate(rows) if row[:2] == ("say", hand))
            behind = [row for row in rows[at + 1:] if row[1] != hand]
            rows = rows[:at] + [("fall", hand)] + behind
        return tuple(rows)

    def look(self, told, deed):
        """True of a deed that can be done, else the class that refuses it and what that bears."""
        if type(deed) is not tuple or not deed or type(deed[0]) is not str or LENGTHS.get(deed[0]) != len(deed):
            return NoDeed, ()
        if deed[0] in ("lose", "double", "carry"):
            there = [copy for copy, many in told["copies"].items() if many and alike(copy, deed[1])]
            return True if there else (NoDeed, ())
        for at in (1, 2) if deed[0] in ("say", "mark") else (1,):
            if deed[at] not in self.hands or at == 2 and deed[1] == deed[2]:
                return NoHand, (deed[at],)
        hand = deed[1]
        if hand in told["fallen"]:
            return NoDeed, ()
        if deed[0] == "mark":
            return True if deed[2] in told["fallen"] else (NoDeed, ())
        if deed[0] == "fall":
            return True if hand in self.weak else (NoDeed, ())
        if deed[0] == "again":
            return True if hand in told["under"] else (NoDeed, ())
        if type(deed[3]) is not str or not self.can(told, hand, ("say",) + deed[2:]):
            return NoDeed, ()
        if hand in told["under"]:
            return Full, (hand, told["under"][hand][2])
        return True

    def can_do(self):
        told = self.replay()
        deeds = [(kind, copy) for kind in ("lose", "double", "carry") for copy in told["copies"]]
        deeds += [(kind, hand) for kind in ("again", "fall") for hand in self.hands]
        deeds += [("mark", one, two) for one in self.hands for two in self.hands]
        words = {step[2] for _, states in self.ends for state in states for step in state}
        deeds += [("say", one, two, word) for one in self.hands for two in self.hands for word in words]
        return tuple(sorted(deed for deed in deeds if self.look(told, deed) is True))

    def do(self, deeds):
        """Does deeds, all or none; tells the row of what each tells, or what refuses the first that is refused."""
        told = self.replay()
        rows = []
        for deed in deeds:
            look = self.look(told, deed)
            if look is not True:
                return look
            rows.append(self.go(told, deed))
        self.deeds.extend(deeds)
        return tuple(rows)


def add(told, copy, many):
    told["copies"][copy] = told["copies"].get(copy, 0) + many
    if not told["copies"][copy]:
        del told["copies"][copy]


def alike(copy, thing):
    return type(thing) is tuple and list(map(type, copy)) == list(map(type, thing)) and copy == thing
