"""Runs and rows that cover them, looked at slowly, as the document tells (7.1, 7.2, 7.4)."""

import re

from tests.papers import view_in


def could_come(board, ahead, deed):
    """Whether a deed can stand behind those ahead of it."""
    hands, weak, _ = board
    if not isinstance(deed, tuple) or not deed or deed[0] not in ("say", "hear", "fall"):
        return False
    if len(deed) != (2 if deed[0] == "fall" else 4) or not all(isinstance(part, str) for part in deed):
        return False
    if deed[1] not in hands or ("fall", deed[1]) in ahead:
        return False
    if deed[0] == "fall":
        return deed[1] in weak
    if deed[2] not in hands or deed[2] == deed[1]:
        return False
    if deed[0] == "say":
        return re.fullmatch("[a-z]{1,8}", deed[3]) is not None
    said = [one[3] for one in ahead if one[:3] == ("say", deed[2], deed[1])]
    if ("fall", deed[2]) in ahead:
        said.append("!")
    heard = [one for one in ahead if one[:3] == deed[:3]]
    return len(heard) < len(said) and said[len(heard)] == deed[3]


def is_slow_run(board, thing):
    return isinstance(thing, tuple) and all(could_come(board, thing[:at], deed) for at, deed in enumerate(thing))


def slow_events(board, run):
    found = {hand: () for hand in board[0]}
    for deed in run:
        if deed[0] != "fall":
            found[deed[1]] += ((deed[0],) + deed[2:],)
    return found


def slow_covers(board, run, row):
    fell = [deed[1] for deed in run if deed[0] == "fall"]
    for hand, events in slow_events(board, run).items():
        view = tuple(view_in(row, hand))
        if view[:len(events)] != events:
            return False
        words = [event for event in view if event[0] == "say"]
        if hand in fell and len(words) > len([event for event in events if event[0] == "say"]):
            return False
    return all(sayer in fell for sayer, _, word in row if word == "!")


def slow_looks(board, run):
    """The dict from all looks to shortest rows by which they are come to."""
    events = slow_events(board, run)
    fell = [deed[1] for deed in run if deed[0] == "fall"]
    rows = {(0, (0,) * len(board[0])): ()}
    for look, row in grown(rows):
        for hearer, word, then in board[2][look[0]][1] if board[2][look[0]] else ():
            longer = row + ((board[2][look[0]][0], hearer, word),)
            if may_stand(board, events, fell, row, longer[-1], longer):
                counts = tuple(min(len(view_in(longer, hand)), len(events[hand])) for hand in board[0])
                rows.setdefault((then, counts), longer)
    return rows


def grown(table):
    """The items of a dict, those too that come while they are gone along."""
    done = 0
    while done < len(table):
        yield list(table.items())[done]
        done += 1


def may_stand(board, events, fell, row, saying, longer):
    sayer, _, word = saying
    for hand in board[0]:
        view = tuple(view_in(longer, hand))
        if any(one != two for one, two in zip(view, events[hand])):
            return False
    has_all = len(view_in(row, sayer)) >= len(events[sayer])
    if word == "!":
        return sayer in fell and has_all
    return sayer not in fell or not has_all


def slow_least(board, run):
    """A shortest row that covers, and how many looks are come to."""
    events = slow_events(board, run)
    full = tuple(len(events[hand]) for hand in board[0])
    looks = slow_looks(board, run)
    rows = [row for (_, counts), row in looks.items() if counts == full]
    return min(rows, key=len) if rows else None, len(looks)
