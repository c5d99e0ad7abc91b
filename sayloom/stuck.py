"""Papers by which it is seen that no ends do just a talk, and hands held back."""

from sayloom.boards import FAULT, check_board, check_hand, is_number_below, is_tuple_of, places_from
from sayloom.errors import NoPlace
from sayloom.rows import check_row, place_after, place_by, view_at

KINDS = ("ends", "fault", "mixed", "race", "says")


def held_back(board, row, hand, *, at=0):
    """The rising rows of the hands held back and of the mute ones behind a row, or None where a mute one fell.

    The hand is held back from the saying numbered at on.
    """
    check_row(board, row)
    check_hand(board, hand)
    if not is_number_below(at, len(row)) or row[at][1] != hand:
        raise NoPlace(at)
    return held_behind(row, hand, at)


def held_behind(row, hand, at):
    """What held_back tells of a row and the number of a saying that the hand hears."""
    holding = ((hand,), ())
    for saying in row[at + 1:]:
        holding = hold_on(holding, saying)
        if holding is None:
            return None
    return holding


def hold_on(holding, saying):
    """The pair of those held back and of those mute behind one more saying, or None where a mute one falls."""
    held, mute = holding
    sayer, hearer, word = saying
    if word == FAULT:
        return None if sayer in mute else holding
    if sayer not in held:
        return holding
    return with_name(held, hearer), with_name(mute, sayer)


def with_name(names, name):
    """The rising row of names with one more, where it isn't among them."""
    return names if name in names else tuple(sorted(names + (name,)))


def shows_stuck(board, thing):
    """Whether thing is a stuck paper of a board."""
    check_board(board)
    return is_paper(board, thing)


def is_paper(board, thing):
    """Whether thing is a stuck paper of what is a board."""
    if not is_tuple_of(thing, 4, 4):
        return False
    kind, hand, row, other = thing
    if kind not in KINDS or hand not in board[0]:
        return False
    places = board[2]
    if not _lives_behind(places, row, hand) or not _lives_behind(places, other, hand):
        return False
    if not view_at(row[-1:], hand):
        return False
    looks_right = JUDGES[kind]
    return looks_right(places, hand, row, other)


def _lives_behind(places, thing, hand):
    """Whether thing is a row in which a hand hasn't fallen."""
    if place_after(places, thing) is None:
        return False
    return not any([sayer == hand and word == FAULT for sayer, _, word in thing])


def _hears_last(hand, row, other):
    """Whether other's last saying is one that the hand hears, its view ahead of both last sayings the same."""
    if not other or other[-1][1] != hand:
        return False
    return view_at(other[:-1], hand) == view_at(row[:-1], hand)


def _is_ends(places, hand, row, other):
    if view_at(other, hand) != view_at(row[:-1], hand):
        return False
    behind = places_from(places, [place_after(places, other)], None, False)
    return not any([has_word_of(places[at], hand) for at in behind])


def has_word_of(place, hand):
    """Whether some branch of a place has a word that a hand says or hears."""
    if place is None:
        return False
    sayer, branches = place
    return any([hand in (sayer, hearer) and word != FAULT for hearer, word, _ in branches])


def _is_fault(_, hand, row, other):
    sayer, hearer, word = row[-1]
    return hearer == hand and word == FAULT and _hears_last(hand, row, other) and other[-1][0] != sayer


def _is_mixed(_, hand, row, other):
    return row[-1][0] == hand and _hears_last(hand, row, other)


def _is_race(_, hand, row, other):
    sayer, hearer, word = row[-1]
    if hearer != hand or word == FAULT or other[-1:] != row[-1:]:
        return False
    at = race_begin(row, other, hand)
    if at is None or other[at][0] in (sayer, hand) or other[at][2] == FAULT:
        return False
    if [saying[2] for saying in other[at:] if saying[:2] == (sayer, hand)] != [word]:
        return False
    holding = held_behind(other, hand, at)
    return holding is not None and sayer not in holding[0]


def race_begin(row, other, hand):
    """The number of the saying with which other goes on behind a hand's view of row without its last one.

    None where its view of other doesn't begin with that, or doesn't go on.
    """
    ahead = view_at(row[:-1], hand)
    events = [at for at in range(len(other)) if view_at(other[at:at + 1], hand)]
    if len(events) <= len(ahead):
        return None
    at = events[len(ahead)]
    return at if view_at(other[:at], hand) == ahead else None


def _is_says(places, hand, row, other):
    if row[-1][0] != hand or view_at(other, hand) != view_at(row[:-1], hand):
        return False
    behind = places_from(places, [place_after(places, other)], hand, False)
    return all([place_by(places[at], row[-1]) is None for at in behind])


JUDGES = {"ends": _is_ends, "fault": _is_fault, "mixed": _is_mixed, "race": _is_race, "says": _is_says}
