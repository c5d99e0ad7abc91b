"""Whether a board is let or stuck: its made ends, or a paper."""

from sayloom.boards import FAULT, check_board
from sayloom.made import Growth, growth_of
from sayloom.sights import Sight
from sayloom.signs import Signs, races_of, way_to_race
from sayloom.stuck import KINDS

MADE = "made"
STUCK = "stuck"


def made(board):
    """The made ends of all hands, or a paper by which the board is stuck."""
    signs = signs_of(board)
    for told in signs:
        paper = paper_of(told, KINDS)
        if paper is not None:
            return STUCK, paper
    return MADE, tuple([(told.hand, tuple(told.states)) for told in signs])


def is_let(board):
    """Whether a board has no stuck paper."""
    return not any([told.has(kind) for told in signs_of(board) for kind in KINDS])


def stuck_paper(board, hand, *, kinds=KINDS):
    """A stuck paper of one of the kinds with a hand, or None where there is none."""
    growth = growth_of(board, hand)
    return paper_of(Signs(board[2], hand, growth), kinds)


def stuck_kinds(board, hand):
    """The rising row of the kinds of all stuck papers with a hand."""
    growth = growth_of(board, hand)
    signs = Signs(board[2], hand, growth)
    return tuple([kind for kind in KINDS if signs.has(kind)])


def signs_of(board):
    """The list of the signs of all hands; refuses what is no board, then too many states of an end."""
    check_board(board)
    return [Signs(board[2], hand, Growth(board[2], hand)) for hand in board[0]]


def paper_of(signs, kinds):
    """A paper of one of the kinds with a hand, or None."""
    for kind in kinds:
        if signs.has(kind):
            sight = Sight(signs.places, signs.hand)
            if kind == "race":
                return (kind, signs.hand) + race_rows(sight)
            look = LOOKS[kind]
            return (kind, signs.hand) + first_rows(sight, look, signs)
    return None


def first_rows(sight, look, signs):
    """The rows to the first pair of places at which a look tells sayings by which these go on, and these."""
    number = 0
    told = None
    while told is None:
        pair = sight.pair_at(number)
        told = look(sight, pair, signs)
        number += 1
    row, other = sight.rows_to(pair)
    return row + told[0], other + told[1]


def look_for_ends(sight, pair, signs):
    """At the first of both places the hand has an event, at the other perhaps none ever."""
    events = sight.says[pair[0]] + sight.hears[pair[0]]
    if not events or signs.goes_on() >> pair[1] & 1:
        return None
    return (events[0][0],), ()


def look_for_fault(sight, pair, _):
    """At the first of both places the hand hears a fault, at the other another sayer."""
    for saying, _ in sight.hears[pair[0]]:
        others = [other for other, _ in sight.hears[pair[1]] if other[0] != saying[0]]
        if saying[2] == FAULT and others:
            return (saying,), (others[0],)
    return None


def look_for_mixed(sight, pair, _):
    """At the first of both places the hand says something, at the other it hears something."""
    says, hears = sight.says[pair[0]], sight.hears[pair[1]]
    if not says or not hears:
        return None
    return (says[0][0],), (hears[0][0],)


def look_for_says(sight, pair, signs):
    """At the first of both places the hand says what it can't be waited for at the other."""
    for saying, _ in sight.says[pair[0]]:
        if not signs.is_waited_for(saying, pair[1]):
            return (saying,), ()
    return None


def race_rows(sight):
    """Two rows, in the second of which the hand may hear first what it hears last there."""
    for last, begins in races_of(sight).items():
        told = way_to_race(sight.places, sight.hand, last, begins)
        if told is not None:
            pair, heard = told[0]
            row, other = sight.rows_to(pair)
            return row + (last,), other + (heard,) + told[1:] + (last,)
    return None


LOOKS = {"ends": look_for_ends, "fault": look_for_fault, "mixed": look_for_mixed, "says": look_for_says}
