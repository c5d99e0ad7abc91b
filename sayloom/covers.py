"""Rows of a board that cover runs, and the runs of stuck papers."""

from sayloom.boards import FAULT, check_board
from sayloom.ends import BEGIN, state_by
from sayloom.errors import NoEnds, NoRow, TooWide
from sayloom.making import MADE, made
from sayloom.rows import check_row, sayings_at, view_at
from sayloom.runs import event_of, events_in_run, fallen_in_run, is_run_of
from sayloom.stuck import hold_on, is_paper, race_begin
from sayloom.traces import trace

MOST_LOOKS = 4000


def is_run(board, thing):
    """Whether thing is a run over a board's hands."""
    check_board(board)
    return is_run_of(board, thing)


def check_run(board, run):
    """Refuses what is no board, then what is no run over its hands."""
    if not is_run(board, run):
        raise NoRow("no run over the hands of that board")


def events_of(board, run):
    """The dict from all hands to the rows of their events in a run."""
    check_run(board, run)
    return events_in_run(board, run)


def covers(board, run, row):
    """Whether a row of the board covers a run."""
    check_run(board, run)
    check_row(board, row)
    fallen = fallen_in_run(run)
    for hand, events in events_in_run(board, run).items():
        view = view_at(row, hand)
        if view[:len(events)] != events:
            return False
        if hand in fallen and any([event[0] == "say" for event in view[len(events):]]):
            return False
    return all([sayer in fallen for sayer, _, word in row if word == FAULT])


def row_of(board, run):
    """A row that covers a run of a let board, or the number of the first deed with which none does."""
    check_run(board, run)
    kind, ends = made(board)
    if kind != MADE:
        raise NoEnds("the board is stuck")
    wrong = first_wrong(ends, run)
    if wrong is not None:
        return "wrong", wrong
    return "row", Weaving(board, run).woven()


def first_wrong(ends, run):
    """The number of the first deed that its hand's end doesn't do, or None where all are done."""
    states_of = {hand: states for hand, states in ends}
    at = {hand: BEGIN for hand, _ in ends}
    for number, deed in enumerate(run):
        if deed[0] == "fall":
            continue
        hand = deed[1]
        then = state_by(states_of[hand][at[hand]], event_of(deed))
        if then is None:
            return number
        at[hand] = then
    return None


class Looking:
    """A run as it is looked for in rows: each hand's events, and who fell.

    A look is a pair of a place and, for each hand, how many of its events lie in its view so far.
    """

    def __init__(self, board, run):
        self.hands, _, self.places = board
        self.events = events_in_run(board, run)
        self.fell = fallen_in_run(run)
        self.start = (0, tuple([0 for _ in self.hands]))
        self.full = tuple([len(self.events[hand]) for hand in self.hands])

    def has_all(self, look, hand):
        """Whether all events of a hand lie in its view."""
        at = self.hands.index(hand)
        return look[1][at] == self.full[at]

    def looks_from(self, look):
        """The list of pairs (saying, look to which it leads) by which a row that covers may go on."""
        found = []
        for saying, then in sayings_at(self.places[look[0]]):
            counts = self.counts_by(look, saying)
            if counts is not None:
                found.append((saying, (then, counts)))
        return found

    def counts_by(self, look, saying):
        """How many events lie in the views behind a saying, or None where it isn't as they are."""
        sayer, _, word = saying
        if self.has_all(look, sayer):
            # Who fell says no word more than it said, and falls just where all it did lies behind.
            if (sayer in self.fell) != (word == FAULT):
                return None
        elif word == FAULT:
            return None
        counts = []
        for hand, many in zip(self.hands, look[1]):
            events = self.events[hand][many:many + 1]
            mine = view_at((saying,), hand)
            if events and mine and events != mine:
                return None
            counts.append(many + len(mine) if events else many)
        return tuple(counts)


class Weaving:
    """How a row that covers a run of a let board is found, from place to place."""

    def __init__(self, board, run):
        self.looking = Looking(board, run)
        self.look = self.looking.start
        self.found = []

    def woven(self):
        """The row that covers."""
        while self.look[1] != self.looking.full:
            came = {self.look: None}
            looks = [self.look]
            done = 0
            while not self.tells(looks[done]):
                looks.extend(self.free_looks(came, looks[done]))
                done += 1
            self.found.extend(trace(came, looks[done]))
            saying, self.look = self.looking.looks_from(looks[done])[0]
            self.found.append(saying)
        return tuple(self.found)

    def tells(self, look):
        """Whether the run tells the saying that comes: what its sayer said, or its fault."""
        # This is no END: of a let board none is come to while something is left.
        sayer, _ = self.looking.places[look[0]]
        return sayer in self.looking.fell or not self.looking.has_all(look, sayer)

    def free_looks(self, came, look):
        """The looks that come first by a saying of which the run tells nothing; came gets them, too."""
        found = []
        for saying, then in self.looking.looks_from(look):
            if then not in came:
                came[then] = (look, saying)
                found.append(then)
        return found


def least_row(board, run, *, most=MOST_LOOKS):
    """A shortest row that covers a run, or None where none does."""
    check_run(board, run)
    looking = Looking(board, run)
    came = {looking.start: None}
    looks = [looking.start]
    done = 0
    found = None
    while done < len(looks):
        look = looks[done]
        if found is None and look[1] == looking.full:
            found = look
        for saying, then in looking.looks_from(look):
            if then not in came:
                came[then] = (look, saying)
                looks.append(then)
        if len(looks) > most:
            raise TooWide(f"more than {most} looks")
        done += 1
    return None if found is None else trace(came, found)


def run_of(board, paper):
    """The run of a stuck paper."""
    check_board(board)
    if not is_paper(board, paper):
        raise NoRow("no stuck paper of that board")
    kind, hand, row, other = paper
    if kind == "race":
        at = race_begin(row, other, hand)
        told = deeds_by(other[:at]) + deeds_held(other, hand, at)
    elif kind in ("fault", "mixed"):
        told = deeds_by(other[:-1]) + deeds_by(other[-1:])[:1]
    else:
        told = deeds_by(other)
    if kind == "fault" and ("fall", row[-1][0]) not in told:
        told.append(("fall", row[-1][0]))
    if kind != "ends":
        told.append(last_deed(hand, row[-1]))
    return tuple(told)


def deeds_by(row):
    """The list of the deeds of a row, each word and fault heard at once."""
    told = []
    for saying in row:
        told.append(said_deed(saying))
        told.append(heard_deed(saying))
    return told


def said_deed(saying):
    """What a saying's sayer does."""
    sayer, hearer, word = saying
    return ("fall", sayer) if word == FAULT else ("say", sayer, hearer, word)


def heard_deed(saying):
    """What a saying's hearer does."""
    sayer, hearer, word = saying
    return "hear", hearer, sayer, word


def deeds_held(row, hand, at):
    """The list of the deeds of a row from a saying on, a hand held back from it on."""
    told = [said_deed(row[at])]
    holding = ((hand,), ())
    for saying in row[at + 1:]:
        held = holding[0]
        if saying[0] not in held or saying[2] == FAULT:
            told.append(said_deed(saying))
            if saying[1] not in held:
                told.append(heard_deed(saying))
        holding = hold_on(holding, saying)
    return told


def last_deed(hand, saying):
    """The deed of a hand by a saying that is an event of it."""
    return said_deed(saying) if saying[0] == hand else heard_deed(saying)
