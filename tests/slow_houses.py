"""A house that keeps nothing but what stands, and works all else out from it, as the document tells (13.1 to 13.4)."""

from sayloom.errors import NoBoard, NoDeed, NoEnds, NoHand
from sayloom.made import made_end
from sayloom.making import is_let
from tests.slow_halls import SlowHall
from tests.slow_looks import is_slow_board
from tests.slow_stands import is_slow_sound

FORMS = {"publish": 2, "change": 2, "begin": 1, "do": 2, "end": 1, "drop": 1}
SOUND = {}


def is_sound(ends, room, weak):
    if (ends, room, weak) not in SOUND:
        SOUND[ends, room, weak] = is_slow_sound(ends, room, weak)
    return SOUND[ends, room, weak]


class State:
    def __init__(self, board, room):
        self.room = room
        self.editions = [board]
        self.mix = tuple(0 for _ in board[0])
        self.log = None
        self.runs = []

    def ends(self, mix):
        return tuple(made_end(self.editions[number], hand) for hand, number in zip(self.editions[0][0], mix))

    def weak(self, mix):
        return tuple(sorted(h for h, number in zip(self.editions[0][0], mix) if h in self.editions[number][1]))

    def hall(self):
        hall = SlowHall(self.ends(self.mix), self.room, self.weak(self.mix))
        hall.log = list(self.log)
        return hall

    def go(self, deed):
        """What a deed tells, done; or the class that refuses it and what that bears, as a pair behind None."""
        return getattr(self, "go_" + deed[0])(*deed[1:])

    def go_publish(self, board):
        if not is_slow_board(board) or board[0] != self.editions[0][0]:
            return None, NoBoard, ()
        if not is_let(board):
            return None, NoEnds, ()
        if len(self.editions) == 4:
            return None, NoDeed, ()
        self.editions = self.editions + [board]
        return len(self.editions) - 1

    def go_change(self, hand):
        if hand not in self.editions[0][0]:
            return None, NoHand, (hand,)
        at = self.editions[0][0].index(hand)
        if self.log is not None or self.mix[at] + 1 == len(self.editions):
            return None, NoDeed, ()
        mix = self.mix[:at] + (self.mix[at] + 1,) + self.mix[at + 1:]
        if not is_sound(self.ends(mix), self.room, self.weak(mix)):
            return None, NoEnds, ()
        self.mix = mix
        return mix[at]

    def go_begin(self):
        if self.log is not None:
            return None, NoDeed, ()
        self.log = ()
        return len(self.runs)

    def go_do(self, deed):
        if self.log is None:
            return None, NoDeed, ()
        row = self.hall().look(deed)
        if isinstance(row[0], type):
            return (None,) + row
        self.log = self.log + (row,)
        return row

    def go_end(self):
        if self.log is None:
            return None, NoDeed, ()
        hall = self.hall()
        if [hand for hand in hall.hands if hand not in hall.fallen() and hall.events(hand)]:
            return None, NoDeed, ()
        log, self.log = self.log, None
        self.runs = self.runs + [(self.mix, log)]
        return log

    def go_drop(self):
        if self.log is None:
            return None, NoDeed, ()
        self.log = None
        return ()


class SlowHouse:
    def __init__(self, board, room):
        self.board, self.room = board, room
        self.groups = []
        self.book = []

    def state(self):
        state = State(self.board, self.room)
        for group in self.groups:
            for deed in group:
                state.go(deed)
        return state

    def deed(self, deed):
        """Does a deed by itself; tells what it tells, or what refuses it behind None."""
        self.book += [("in", deed[0]), ("out", deed[0])]
        told = self.state().go(deed)
        if not is_refused(told):
            self.groups.append([deed])
        return told

    def row(self, deeds, name="all_of"):
        """Does a row of deeds, as a drive does its own, too."""
        self.book.append(("in", name))
        told = self.row_told(deeds)
        self.book.append(("out", name))
        return told

    def row_told(self, deeds):
        if type(deeds) is not tuple:
            return None, NoDeed, ()
        for deed in deeds:
            if type(deed) is not tuple or not deed or type(deed[0]) is not str or FORMS.get(deed[0]) != len(deed):
                return None, NoDeed, ()
        state = self.state()
        told = []
        for deed in deeds:
            self.book += [("in", deed[0]), ("out", deed[0])]
            told.append(state.go(deed))
            if is_refused(told[-1]):
                return told[-1]
        self.groups.append(list(deeds))
        return tuple(told)

    def back(self):
        self.book += [("in", "back"), ("out", "back")]
        if not self.groups:
            return None, NoDeed, ()
        self.groups.pop()
        return ()


def is_refused(told):
    return type(told) is tuple and len(told) == 3 and told[0] is None and isinstance(told[1], type)
