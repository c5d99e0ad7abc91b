"""Rows of sayings of a board, and what each hand sees of them."""

from sayloom.boards import FAULT, branches_of, check_board, check_hand, check_reach
from sayloom.errors import NoRow


def is_row(board, thing):
    """Whether thing is a row of a board."""
    check_board(board)
    return place_after(board[2], thing) is not None


def place_after(places, thing):
    """The number of the place to which thing leads from the begin on, or None where it is no row."""
    if not isinstance(thing, tuple):
        return None
    at = 0
    for saying in thing:
        at = place_by(places[at], saying)
        if at is None:
            return None
    return at


def place_by(place, saying):
    """The number of the place that comes by a saying at a place, or None where no branch is such."""
    if place is None:
        return None
    sayer, branches = place
    for hearer, word, then in branches:
        if (sayer, hearer, word) == saying:
            return then
    return None


def sayings_at(place):
    """The list of pairs (saying, place that comes then) of the branches of a place."""
    if place is None:
        return []
    return [((place[0], hearer, word), then) for hearer, word, then in place[1]]


def check_row(board, row):
    """The number of the place of a row; refuses what is no board, then what is no row of it."""
    check_board(board)
    at = place_after(board[2], row)
    if at is None:
        raise NoRow("no row of that board")
    return at


def place_behind(board, row):
    """The number of the place to which a row comes at last."""
    return check_row(board, row)


def is_faultless(board, row):
    """Whether no saying of a row is a fault."""
    check_row(board, row)
    return all([saying[2] != FAULT for saying in row])


def view_of(board, row, hand):
    """The row of the events of a hand in a row."""
    check_row(board, row)
    check_hand(board, hand)
    return view_at(row, hand)


def views_of(board, row):
    """The views of a row at all hands, in the board's order."""
    check_row(board, row)
    return {hand: view_at(row, hand) for hand in board[0]}


def view_at(row, hand):
    """The row of the events of a hand in sayings."""
    events = []
    for sayer, hearer, word in row:
        if hearer == hand:
            events.append(("hear", sayer, word))
        elif sayer == hand and word != FAULT:
            events.append(("say", hearer, word))
    return tuple(events)


def row_to(board, place, *, without=None, faults=True):
    """A shortest row that comes to a place along branches as in reach, or None where there is none."""
    check_reach(board, place, without)
    return rows_from(board[2], 0, without, faults).get(place)


def rows_from(places, start, without, faults):
    """For each place that is come to from a place, the sayings of a shortest way to it."""
    rows = {start: ()}
    newest = [start]
    while newest:
        found = []
        for at in newest:
            for hearer, word, then in branches_of(places[at], without, faults):
                if then not in rows:
                    rows[then] = rows[at] + ((places[at][0], hearer, word),)
                    found.append(then)
        newest = found
    return rows
