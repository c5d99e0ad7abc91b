"""Stuck papers, judged slowly, as the document tells of them (5.1, 5.2)."""

from tests.samples import all_rows


def event_in(saying, hand):
    """The event of a hand by a saying, or None."""
    sayer, hearer, word = saying
    if hearer == hand:
        return "hear", sayer, word
    return ("say", hearer, word) if sayer == hand and word != "!" else None


def view_in(row, hand):
    return [event_in(saying, hand) for saying in row if event_in(saying, hand)]


def fell_in(row, hand):
    return bool([saying for saying in row if saying[0] == hand and saying[2] == "!"])


def place_in(board, row):
    """The place of a row, or None where it is none of the board."""
    at = 0
    for saying in row:
        table = {(board[2][at][0],) + branch[:2]: branch[2] for branch in board[2][at][1]} if board[2][at] else {}
        if saying not in table:
            return None
        at = table[saying]
    return at


def behind(board, place, without=None):
    """All places to which branches with words lead that a hand neither says nor hears."""
    found = [place]
    for at in found:
        for hearer, word, then in board[2][at][1] if board[2][at] else ():
            if word != "!" and without not in (board[2][at][0], hearer) and then not in found:
                found.append(then)
    return found


def sayings_behind(board, place, without=None):
    return [(board[2][at][0],) + branch[:2] for at in behind(board, place, without) if board[2][at]
            for branch in board[2][at][1]]


def slow_held(row, hand, at):
    """The sets of those held back and of those mute, or None."""
    held, mute = {hand}, set()
    for sayer, hearer, word in row[at + 1:]:
        if word == "!" and sayer in mute:
            return None
        if word != "!" and sayer in held:
            mute.add(sayer)
            held.add(hearer)
    return held, mute


def is_slow_paper(board, kind, hand, row, other):
    """Whether two rows of a board are such as the kind of papers tells, with a hand."""
    if not row or fell_in(row, hand) or fell_in(other, hand):
        return False
    event = event_in(row[-1], hand)
    if event is None:
        return False
    ahead = view_in(row[:-1], hand)
    if kind in ("mixed", "fault"):
        if not other or other[-1][1] != hand or view_in(other[:-1], hand) != ahead:
            return False
        if kind == "mixed":
            return event[0] == "say"
        return event[0] == "hear" and event[2] == "!" and other[-1][0] != event[1]
    if kind == "says":
        if event[0] != "say" or view_in(other, hand) != ahead:
            return False
        return row[-1] not in sayings_behind(board, place_in(board, other), hand)
    if kind == "ends":
        if view_in(other, hand) != ahead:
            return False
        words = [saying for saying in sayings_behind(board, place_in(board, other)) if saying[2] != "!"]
        return not [saying for saying in words if hand in saying[:2]]
    return is_slow_race(hand, row, other, event, ahead)


def is_slow_race(hand, row, other, event, ahead):
    view = view_in(other, hand)
    if event[0] != "hear" or event[2] == "!" or not other or other[-1] != row[-1]:
        return False
    if view[:len(ahead)] != ahead or len(view) == len(ahead):
        return False
    first = view[len(ahead)]
    if first[0] != "hear" or first[2] == "!" or first[1] == event[1]:
        return False
    numbers = [number for number, saying in enumerate(other) if event_in(saying, hand)]
    at = numbers[len(ahead)]
    said = [saying for saying in other[at:] if saying[:2] == (event[1], hand)]
    held = slow_held(other, hand, at)
    return said == [row[-1]] and held is not None and event[1] not in held[0]


def slow_papers(board, most):
    """All papers of a board whose rows have at most so many sayings, as a set, and the rows."""
    rows = [row for row, _ in all_rows(board, most)]
    found = set()
    for hand in board[0]:
        for row in rows:
            for other in rows:
                for kind in ("ends", "fault", "mixed", "race", "says"):
                    if is_slow_paper(board, kind, hand, row, other):
                        found.add((kind, hand, row, other))
    return found, rows
