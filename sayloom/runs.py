"""Runs over the hands of a board: what can have been said, heard, and who fell."""

from sayloom.boards import FAULT, is_name
from sayloom.halls import ROW_FORMS, has_form


class Running:
    """Goes along a run, whatever the ends."""

    def __init__(self, board):
        self.hands, self.weak, _ = board
        self.fell = {}
        self.said = {(one, two): [] for one in self.hands for two in self.hands if one != two}
        self.heard = {pair: 0 for pair in self.said}

    def goes_by(self, row):
        """Whether a row of a log can come next; if so, it does."""
        if not has_form(row, ROW_FORMS) or row[1] not in self.hands or row[1] in self.fell:
            return False
        if row[0] == "fall":
            return self.goes_by_fall(row[1])
        kind, hand, other, word = row
        if other not in self.hands or other == hand:
            return False
        if kind == "hear":
            return self.goes_by_hearing((other, hand), word)
        self.said[hand, other].append(word)
        return is_name(word)

    def goes_by_fall(self, hand):
        if hand not in self.weak:
            return False
        self.fell[hand] = True
        for other in self.hands:
            if other != hand:
                self.said[hand, other].append(FAULT)
        return True

    def goes_by_hearing(self, pair, word):
        at = self.heard[pair]
        if self.said[pair][at:at + 1] != [word]:
            return False
        self.heard[pair] = at + 1
        return True


def is_run_of(board, thing):
    """Whether thing is a run over the hands of what is a board."""
    if not isinstance(thing, tuple):
        return False
    running = Running(board)
    for row in thing:
        if not running.goes_by(row):
            return False
    return True


def event_of(row):
    """The event of its hand of a row of a log that is no fall."""
    return (row[0],) + row[2:]


def events_in_run(board, run):
    """The dict from all hands to the rows of their events."""
    found = {hand: [] for hand in board[0]}
    for row in run:
        if row[0] != "fall":
            found[row[1]].append(event_of(row))
    return {hand: tuple(found[hand]) for hand in found}


def fallen_in_run(run):
    """The dict from the hands that fall in a run to True."""
    return {row[1]: True for row in run if row[0] == "fall"}
