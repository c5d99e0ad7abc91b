"""Halls: ends that say, hear and fall over roads, and the logs of what they did."""

from sayloom.boards import FAULT, FEWEST_HANDS, MOST_HANDS, are_weak, is_number, is_tuple_of
from sayloom.ends import BEGIN, is_end_among, state_by
from sayloom.errors import Empty, Full, LoomError, NoDeed, NoEnds, NoHand, NoRoom, NoRow

MOST_ROOM = 9
# How many things a deed and a row of a log have, by their words.
DEED_FORMS = (("say", 4), ("hear", 3), ("fall", 2))
ROW_FORMS = (("say", 4), ("hear", 4), ("fall", 2))


def are_ends(thing):
    """Whether thing is the ends of a hall."""
    if not is_tuple_of(thing, FEWEST_HANDS, MOST_HANDS):
        return False
    hands = [end[0] for end in thing if isinstance(end, tuple) and len(end) == 2]
    if not all([is_end_among(end, hands) for end in thing]):
        return False
    return len(set(hands)) == len(hands)


def is_room(thing):
    """Whether thing is a room of so many words."""
    return is_number(thing) and 1 <= thing <= MOST_ROOM


def check_hall(ends, room, weak):
    """Refuses what no hall has."""
    if not are_ends(ends):
        raise NoEnds("no ends of a hall")
    if room is not None and not is_room(room):
        raise NoRoom("no room of a hall")
    if not are_weak(weak, [hand for hand, _ in ends]):
        raise NoHand(weak)


def has_form(thing, forms):
    """Whether thing is a tuple that begins with the word of one of the forms and has its length."""
    return isinstance(thing, tuple) and thing[:1] + (len(thing),) in forms


def check_deed(deed):
    """Refuses what is no deed by its word and length."""
    if not has_form(deed, DEED_FORMS):
        raise NoDeed("no deed")


class Hall:
    """Ends, each in a state, and the roads between them."""

    def __init__(self, ends, *, room=None, weak=()):
        check_hall(ends, room, weak)
        self.ends = ends
        self.room = room
        self.weak = weak
        self._states_of = {hand: states for hand, states in ends}
        self._at = {hand: BEGIN for hand, _ in ends}
        self._fallen = {}
        self._roads = {(one, two): [] for one, _ in ends for two, _ in ends if one != two}
        self._log = []
        # For each row of the log what is needed to take it back.
        self._ahead = []
        # For each deed or row of deeds that stands how long the log was ahead of it.
        self._marks = []
        self._calls = 0
        self._refused = 0

    def say(self, hand, hearer, word):
        """The hand says a word to the hearer; tells the row of the log."""
        return self._counted(("say", hand, hearer, word))

    def hear(self, hand, sayer):
        """The hand hears what is first on the road from the sayer; tells the row of the log."""
        return self._counted(("hear", hand, sayer))

    def fall(self, hand):
        """The hand falls; tells the row of the log."""
        return self._counted(("fall", hand))

    def do(self, deed):
        """Does a deed; tells the row of the log."""
        return self._counted(deed)

    def all_of(self, deeds):
        """Does all of a row of deeds, or none; tells the row of the log's rows."""
        self._begin()
        if not isinstance(deeds, tuple) or not deeds:
            raise NoDeed("no row of deeds")
        mark = len(self._log)
        rows = []
        try:
            for deed in deeds:
                rows.append(self._do(deed))
        except (LoomError, NoHand, Empty, Full):
            self._cut(mark)
            raise
        self._end(mark)
        return tuple(rows)

    def back(self):
        """Takes back the last deed, or row of deeds as a whole, that stands."""
        self._begin()
        if not self._marks:
            raise NoDeed("nothing stands")
        self._cut(self._marks.pop())
        self._refused -= 1

    def _begin(self):
        """Counts a call, as refused till it ends."""
        self._calls += 1
        self._refused += 1

    def _end(self, mark):
        """Counts a call that did something as not refused; it can be taken back."""
        self._refused -= 1
        self._marks.append(mark)

    def _counted(self, deed):
        self._begin()
        mark = len(self._log)
        row = self._do(deed)
        self._end(mark)
        return row

    def _do(self, deed):
        """Does a deed, uncounted; tells the row of the log."""
        check_deed(deed)
        self._check_hand(deed[1])
        if deed[0] == "fall":
            return self._do_fall(deed[1])
        self._check_other(deed[1], deed[2])
        if deed[1] in self._fallen:
            raise NoDeed("a fallen hand does nothing")
        if deed[0] == "say":
            return self._do_say(deed)
        return self._do_hear(deed[1], deed[2])

    def _check_hand(self, hand):
        if hand not in list(self._at):
            raise NoHand(hand)

    def _check_other(self, hand, other):
        if other == hand:
            raise NoHand(other)
        self._check_hand(other)

    def _do_say(self, deed):
        _, hand, hearer, word = deed
        then = self._state_by(hand, ("say", hearer, word))
        road = self._roads[hand, hearer]
        if len(road) == self.room:
            raise Full(hand, hearer)
        if hearer not in self._fallen:
            road.append(word)
        return self._go(deed, then)

    def _do_hear(self, hand, sayer):
        road = self._roads[sayer, hand]
        if not road:
            raise Empty(sayer, hand)
        then = self._state_by(hand, ("hear", sayer, road[0]))
        return self._go(("hear", hand, sayer, road.pop(0)), then)

    def _state_by(self, hand, event):
        """The state that comes by an event of a hand; refuses what its end can't."""
        then = state_by(self._states_of[hand][self._at[hand]], event)
        if then is None:
            raise NoDeed("the end can't do that")
        return then

    def _go(self, row, then):
        self._log.append(row)
        self._ahead.append(self._at[row[1]])
        self._at[row[1]] = then
        return row

    def _do_fall(self, hand):
        if hand in self._fallen:
            raise NoDeed("a fallen hand does nothing")
        if hand not in self.weak:
            raise NoDeed("the hand isn't weak")
        self._log.append(("fall", hand))
        self._ahead.append({other: self._roads[other, hand] for other in self._at if other != hand})
        self._fallen[hand] = True
        for other in self._ahead[-1]:
            self._roads[other, hand] = []
        for other in self._living():
            self._roads[hand, other].append(FAULT)
        return "fall", hand

    def _living(self):
        """The list of the hands that haven't fallen, as the ends stand."""
        return [hand for hand in self._at if hand not in self._fallen]

    def _cut(self, mark):
        """Takes back all rows of the log but the first so many."""
        while len(self._log) > mark:
            self._undo(self._log.pop(), self._ahead.pop())

    def _undo(self, row, ahead):
        if row[0] == "fall":
            for other in self._living():
                self._roads[row[1], other].pop()
            for other in ahead:
                self._roads[other, row[1]] = ahead[other]
            del self._fallen[row[1]]
            return
        self._at[row[1]] = ahead
        if row[0] == "hear":
            self._roads[row[2], row[1]].insert(0, row[3])
        elif row[2] not in self._fallen:
            self._roads[row[1], row[2]].pop()

    def _stands(self, row):
        """Whether a row of a log can stand next; if so, it does, as a deed by itself."""
        if not has_form(row, ROW_FORMS):
            return False
        mark = len(self._log)
        try:
            done = self._do(row[:3] if row[0] == "hear" else row)
        except (LoomError, NoHand, Empty, Full):
            return False
        if done != row:
            self._cut(mark)
            return False
        self._marks.append(mark)
        return True

    def can_do(self):
        """The rising row of all deeds that can be done."""
        deeds = [("fall", hand) for hand in self.weak if hand not in self._fallen]
        for hand in self._living():
            deeds.extend(self._deeds_of(hand))
        return tuple(sorted(deeds))

    def _deeds_of(self, hand):
        """The list of the says and hearings that a living hand can do."""
        deeds = []
        for kind, other, word, _ in self._states_of[hand][self._at[hand]]:
            if kind == "say" and len(self._roads[hand, other]) != self.room:
                deeds.append(("say", hand, other, word))
            elif kind == "hear" and self._roads[other, hand][:1] == [word]:
                deeds.append(("hear", hand, other))
        return deeds

    def state_of(self, hand):
        """The number of the state of a hand's end."""
        self._check_hand(hand)
        return self._at[hand]

    def is_done(self, hand):
        """Whether a hand's end is done where it is."""
        self._check_hand(hand)
        return not self._states_of[hand][self._at[hand]]

    def view_of(self, hand):
        """The row of a hand's events in the log."""
        self._check_hand(hand)
        return tuple([(row[0],) + row[2:] for row in self._log if row[1] == hand and row[0] != "fall"])

    def views(self):
        """The dict from all hands to their views."""
        return {hand: self.view_of(hand) for hand in self._at}

    def road(self, sayer, hearer):
        """The row of what is on a road, the first first."""
        self._check_hand(sayer)
        self._check_other(sayer, hearer)
        return tuple(self._roads[sayer, hearer])

    def fallen(self):
        """The rising row of the hands that fell."""
        return tuple(sorted(self._fallen))

    def under_way(self):
        """The dict from the rising pairs whose roads have something to the rows of it."""
        return {pair: tuple(self._roads[pair]) for pair in sorted(self._roads) if self._roads[pair]}

    def log(self):
        """The row of the rows of what stands."""
        return tuple(self._log)

    def counts(self):
        """The pair of how many calls there were and how many of them were refused."""
        return self._calls, self._refused

    def twin(self):
        """A hall of its own of the same ends, room, weak hands and log, that counts from 0."""
        other = Hall(self.ends, room=self.room, weak=self.weak)
        other._at = dict(self._at)
        other._fallen = dict(self._fallen)
        other._roads = {pair: list(self._roads[pair]) for pair in self._roads}
        other._log = list(self._log)
        other._ahead = [copied(ahead) for ahead in self._ahead]
        other._marks = list(self._marks)
        return other

    def __eq__(self, other):
        if not isinstance(other, Hall):
            return False
        if self.ends != other.ends or self.room != other.room or self.weak != other.weak:
            return False
        return self._log == other._log

    def __len__(self):
        return len(self._log)

    def __str__(self):
        return " ".join([written(row) for row in self._log])

    def __repr__(self):
        return f"Hall({len(self.ends)} hands, {len(self._log)} deeds)"


def copied(ahead):
    """What is needed to take a row of a log back: the state ahead of it, or, of a fall, the roads to the hand."""
    if not isinstance(ahead, dict):
        return ahead
    return {other: list(ahead[other]) for other in ahead}


def written(row):
    """A row of a log as a text."""
    if row[0] == "fall":
        return f"{row[1]}{FAULT}"
    kind, hand, other, word = row
    sign = ">" if kind == "say" else "<"
    return f"{hand}{sign}{other}:{word}"


def hall_behind(ends, log, *, room=None, weak=()):
    """The hall that has done a log's deeds one by one."""
    hall = Hall(ends, room=room, weak=weak)
    if fault_behind(hall, log) is not None:
        raise NoRow("no log of such a hall")
    return hall


def fault_in(ends, log, *, room=None, weak=()):
    """None of a log of such a hall, else the number of the first row that can't stand there."""
    return fault_behind(Hall(ends, room=room, weak=weak), log)


def fault_behind(hall, log):
    """What fault_in tells of a log; the hall does what can stand of it."""
    if not isinstance(log, tuple):
        return 0
    for at, row in enumerate(log):
        if not hall._stands(row):
            return at
    return None
