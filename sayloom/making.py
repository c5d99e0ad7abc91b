"""Whether a board is let or stuck: its made ends, or a paper."""

from sayloom.boards import FAULT, check_board, places_from
from sayloom.made import growth_of
from sayloom.rows import sayings_at
from sayloom.sights import Sight
from sayloom.stuck import KINDS, has_word_of, hold_on
from sayloom.traces import trace

MADE = "made"
STUCK = "stuck"
# Stands ahead of all looks of a search: no place has this number.
AHEAD = (-1, (), ())


def made(board):
    """The made ends of all hands, or a paper by which the board is stuck."""
    check_board(board)
    ends = tuple([(hand, tuple(growth_of(board, hand).states)) for hand in board[0]])
    for hand in board[0]:
        paper = paper_of(Sight(board[2], hand), KINDS)
        if paper is not None:
            return STUCK, paper
    return MADE, ends


def is_let(board):
    """Whether a board has no stuck paper."""
    return made(board)[0] == MADE


def stuck_paper(board, hand, *, kinds=KINDS):
    """A stuck paper of one of the kinds with a hand, or None where there is none."""
    return paper_of(sight_of(board, hand), kinds)


def stuck_kinds(board, hand):
    """The rising row of the kinds of all stuck papers with a hand."""
    sight = sight_of(board, hand)
    return tuple([kind for kind in KINDS if paper_of(sight, (kind,)) is not None])


def sight_of(board, hand):
    """The sight of a hand; refused as its growth."""
    growth_of(board, hand)
    return Sight(board[2], hand)


def paper_of(sight, kinds):
    """A paper of one of the kinds with a sight's hand, or None."""
    for kind in kinds:
        seek = SEEKERS[kind]
        rows = seek(sight)
        if rows is not None:
            return (kind, sight.hand) + rows
    return None


def seek_ends(sight):
    """Two rows behind one of which the hand has an event, behind the other perhaps none ever, or None."""
    goes_on = [goes_on_at(sight, at) for at in range(len(sight.places))]
    for pair in sight.came:
        events = sight.says[pair[0]] + sight.hears[pair[0]]
        if events and not goes_on[pair[1]]:
            row, other = sight.rows_to(pair)
            return row + (events[0][0],), other
    return None


def goes_on_at(sight, at):
    """Whether a row without faults goes on from a place to a word that the hand says or hears."""
    behind = places_from(sight.places, [at], None, False)
    return any([has_word_of(sight.places[place], sight.hand) for place in behind])


def seek_fault(sight):
    """Two rows behind one of which the hand hears a fault, behind the other another sayer, or None."""
    for pair in sight.came:
        for saying, _ in sight.hears[pair[0]]:
            others = [other for other, _ in sight.hears[pair[1]] if other[0] != saying[0]]
            if saying[2] == FAULT and others:
                row, other = sight.rows_to(pair)
                return row + (saying,), other + (others[0],)
    return None


def seek_mixed(sight):
    """Two rows behind one of which the hand says something, behind the other hears something, or None."""
    for pair in sight.came:
        says, hears = sight.says[pair[0]], sight.hears[pair[1]]
        if says and hears:
            row, other = sight.rows_to(pair)
            return row + (says[0][0],), other + (hears[0][0],)
    return None


def seek_says(sight):
    """Two rows behind one of which the hand says what it can't be waited for behind the other, or None."""
    may_say = [sight.may_say(at) for at in range(len(sight.places))]
    for pair in sight.came:
        for saying, _ in sight.says[pair[0]]:
            if saying not in may_say[pair[1]]:
                row, other = sight.rows_to(pair)
                return row + (saying,), other
    return None


def seek_race(sight):
    """Two rows, in the second of which the hand may hear first what it hears last there, or None."""
    for last, begins in races_of(sight).items():
        told = way_to_race(sight, last, begins)
        if told is not None:
            pair, heard = told[0]
            row, other = sight.rows_to(pair)
            return row + (last,), other + (heard,) + told[1:] + (last,)
    return None


def races_of(sight):
    """The dict from each word that is heard to the words of other sayers that may be heard in its place.

    These are dicts from the pairs (saying, place behind it) to a pair of places with both.
    """
    found = {}
    for pair in sight.came:
        for last, _ in sight.hears[pair[0]]:
            for heard in sight.hears[pair[1]]:
                if last[0] != heard[0][0] and FAULT not in (last[2], heard[0][2]):
                    found.setdefault(last, {}).setdefault(heard, pair)
    return found


def way_to_race(sight, last, begins):
    """How a row goes on to last, the hand held back from another sayer's word on, or None.

    Told are (pair, that saying) and the sayings between both. Looks are a place, who is held back, who is mute.
    """
    came = {AHEAD: None}
    looks = []
    for (heard, then), pair in begins.items():
        look = (then, (sight.hand,), ())
        if look not in came:
            came[look] = (AHEAD, (pair, heard))
            looks.append(look)
    done = 0
    while done < len(looks):
        look = looks[done]
        for saying, then in sayings_at(sight.places[look[0]]):
            if saying == last:
                return trace(came, look)
            # Its sayer says nothing else to the hand from there on.
            holding = hold_on(look[1:], saying) if saying[:2] != last[:2] else None
            if holding is not None and last[0] not in holding[0]:
                come = (then,) + holding
                if come not in came:
                    came[come] = (look, saying)
                    looks.append(come)
        done += 1
    return None


SEEKERS = {"ends": seek_ends, "fault": seek_fault, "mixed": seek_mixed, "race": seek_race, "says": seek_says}
