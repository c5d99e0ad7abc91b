"""Mixes of editions: their ends, and whether they meet."""

from sayloom.boards import is_number_below
from sayloom.errors import NoEnds, TooWide
from sayloom.making import MADE, made
from sayloom.moves import Moves
from sayloom.tables import Walk


def ends_of_let(board):
    """The made ends of a board; refuses what is none, what is too wide, and what is stuck."""
    kind, ends = made(board)
    if kind != MADE:
        raise NoEnds("the board is stuck")
    return ends


class Mixing:
    """Editions with their made ends, and which of their mixes meet, with a room."""

    def __init__(self, boards, ends, room, most):
        self.boards = boards
        self.ends = ends
        self.room = room
        self.most = most
        self.hands = boards[0][0]
        # For each hand the numbers of its editions, the same one of those by which it has the same end, weak or not.
        self.likes = []
        for at, hand in enumerate(self.hands):
            kinds = [(row[at], hand in board[1]) for row, board in zip(ends, boards)]
            self.likes.append([kinds.index(kind) for kind in kinds])
        # What was found out of mixes: None where they meet, else a run to a fault; and which are too wide.
        self.found = {}
        self.wide = {}

    def ends_by(self, mix):
        """The ends of a mix."""
        return tuple([self.ends[number][at] for at, number in enumerate(mix)])

    def weak_by(self, mix):
        """The rising row of the weak hands of a mix."""
        return tuple(sorted([hand for hand, number in zip(self.hands, mix) if hand in self.boards[number][1]]))

    def moves_by(self, mix):
        """The moves of a mix."""
        return Moves(self.ends_by(mix), self.room, self.weak_by(mix))

    def run_by(self, mix):
        """None of a mix that meets, else a run to a fault."""
        like = tuple([likes[number] for likes, number in zip(self.likes, mix)])
        if like in self.wide:
            raise TooWide(f"more than {self.most} stands")
        if like not in self.found:
            # So it is, unless the walk comes to its end.
            self.wide[like] = True
            self.found[like] = Walk(self.moves_by(mix), self.most).run_to_fault()
            del self.wide[like]
        return self.found[like]

    def table_by(self, mix):
        """The table of a mix that meets."""
        return Walk(self.moves_by(mix), self.most).table()

    def is_mix(self, thing):
        """Whether thing is a mix."""
        if not isinstance(thing, tuple) or len(thing) != len(self.hands):
            return False
        return all([is_number_below(number, len(self.boards)) for number in thing])

    def first(self):
        """The mix of the first edition."""
        return tuple([0 for _ in self.hands])

    def last(self):
        """The mix of the last edition."""
        return tuple([len(self.boards) - 1 for _ in self.hands])

    def next_by(self, mix, hand):
        """The mix in which a hand goes over to its next edition, or None where there is none."""
        at = self.hands.index(hand)
        if mix[at] + 1 == len(self.boards):
            return None
        return mix[:at] + (mix[at] + 1,) + mix[at + 1:]
