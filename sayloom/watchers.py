"""Watchers: whether all is right, as it is seen of each hand's events by themselves."""

from sayloom.boards import FAULT
from sayloom.covers import Weaving
from sayloom.ends import BEGIN, events_in, is_event, state_by
from sayloom.errors import NoDeed, NoEnds, NoHand
from sayloom.making import MADE, made

FELL = ("fell",)


class Watcher:
    """What each hand of a board told that it said, heard, or that it fell, and what could be laid of it."""

    def __init__(self, board):
        kind, ends = made(board)
        if kind != MADE:
            raise NoEnds("the board is stuck")
        self._board = board
        self._states_of = {hand: states for hand, states in ends}
        self._at = {hand: BEGIN for hand, _ in ends}
        self._told = {hand: [] for hand, _ in ends}
        # The hands of which nothing more is told, and of those that were wrong the number of that report.
        self._ended = {}
        self._wrong = {}
        self._many_laid = {hand: 0 for hand, _ in ends}
        self._roads = {(one, two): [] for one, _ in ends for two, _ in ends if one != two}
        self._log = []

    def tell(self, hand, event):
        """Takes a report of a hand; tells the row of the log's rows that are laid by it."""
        self._check_hand(hand)
        if event != FELL and not is_event(event):
            raise NoDeed("no report")
        if hand in self._ended:
            raise NoDeed("nothing more is told of that hand")
        if not self._is_right(hand, event):
            self._ended[hand] = True
            self._wrong[hand] = len(self._told[hand])
            self._told[hand].append(event)
            return ()
        self._told[hand].append(event)
        return self._all_laid()

    def _check_hand(self, hand):
        if hand not in list(self._told):
            raise NoHand(hand)

    def _is_right(self, hand, event):
        """Whether a report is right behind those ahead of it; if so, the hand goes on by it."""
        if event == FELL:
            if hand in self._board[1]:
                self._ended[hand] = True
            return hand in self._board[1]
        then = state_by(self._states_of[hand][self._at[hand]], event)
        if then is None:
            return False
        self._at[hand] = then
        return True

    def _all_laid(self):
        """Lays all that can be laid; tells the row of the rows."""
        start = len(self._log)
        hand = self._first_to_lay()
        while hand is not None:
            self._put(hand, self._told[hand][self._many_laid[hand]])
            hand = self._first_to_lay()
        return tuple(self._log[start:])

    def _first_to_lay(self):
        """The first hand that has a report which can be laid, or None."""
        for hand in self._told:
            if self._many_laid[hand] < self._many_right(hand):
                event = self._told[hand][self._many_laid[hand]]
                if event[0] != "hear" or self._roads[event[1], hand][:1] == [event[2]]:
                    return hand
        return None

    def _many_right(self, hand):
        return self._wrong.get(hand, len(self._told[hand]))

    def _put(self, hand, event):
        self._many_laid[hand] += 1
        if event == FELL:
            # The fault comes behind all words of the fallen one, as on the roads of a hall.
            for other in self._told:
                if other != hand:
                    self._roads[hand, other].append(FAULT)
            self._log.append(("fall", hand))
            return
        kind, other, word = event
        if kind == "say":
            self._roads[hand, other].append(word)
        else:
            self._roads[other, hand].pop(0)
        self._log.append((kind, hand, other, word))

    def told(self, hand):
        """The row of a hand's reports, a wrong one at its end."""
        self._check_hand(hand)
        return tuple(self._told[hand])

    def next_of(self, hand):
        """The rising row of the events that a hand's made end may do behind its reports."""
        self._check_hand(hand)
        if hand in self._ended:
            return ()
        return tuple(events_in(self._states_of[hand][self._at[hand]]))

    def wrongs(self):
        """The dict from the hands that were wrong to the numbers of their wrong reports."""
        return {hand: self._wrong[hand] for hand in self._told if hand in self._wrong}

    def waits(self):
        """The dict from the hands with right reports that aren't laid to the number of the first of these."""
        laid = self._many_laid
        return {hand: laid[hand] for hand in self._told if laid[hand] < self._many_right(hand)}

    def log(self):
        """The row of what was laid, in its order."""
        return tuple(self._log)

    def row(self):
        """A row of sayings that covers what was laid."""
        return Weaving(self._board, self._log).woven()

    def is_right(self):
        """Whether no report is wrong and none waits."""
        return not self._wrong and not self._many_waiting()

    def _many_waiting(self):
        """How many right reports aren't laid."""
        return len(self) - len(self._wrong) - len(self._log)

    def __eq__(self, other):
        if not isinstance(other, Watcher):
            return False
        return self._board == other._board and self._told == other._told

    def __len__(self):
        return len([event for hand in self._told for event in self._told[hand]])

    def __str__(self):
        return f"{len(self)} told, {self._many_waiting()} wait, {len(self._wrong)} wrong"
