"""Waits and ways on, looked at slowly, as the document tells (8.1 to 8.3, 10.4)."""

from tests.papers import view_in
from tests.slow_halls import SlowHall
from tests.slow_nets import SlowNet


def takes_part(place, hand):
    return place is not None and (place[0] == hand or hand in [to for to, word, _ in place[1] if word != "!"])


def spoken(place):
    return [then for _, word, then in place[1] if word != "!"] if place else []


def slow_waits(board):
    """The least waits: how many sayings at least come ahead, by widening rings of places."""
    rows = []
    for hand in board[0]:
        row = []
        for start in range(len(board[2])):
            ring, many, seen = {start}, 0, {start}
            while ring and not any(takes_part(board[2][at], hand) for at in ring):
                ring = {then for at in ring for then in spoken(board[2][at])} - seen
                seen |= ring
                many += 1
            row.append(many if ring else None)
        rows.append(tuple(row))
    return tuple(rows)


def is_slow_waits(board, thing):
    hands, _, places = board
    if type(thing) is not tuple or len(thing) != len(hands):
        return False
    for hand, row in zip(hands, thing):
        if type(row) is not tuple or len(row) != len(places):
            return False
        if not all(number is None or type(number) is int and number >= 0 for number in row):
            return False
        for place, number in zip(places, row):
            comes = [row[then] for then in spoken(place)]
            if takes_part(place, hand) != (number is not None and number == 0):
                return False
            if number is None and set(comes) - {None}:
                return False
            if number and not [come for come in comes if come is not None and come < number]:
                return False
    return True


def slow_twin(hall):
    other = SlowHall(hall.ends, hall.room, hall.weak)
    other.log = list(hall.log())
    return other


def is_slow_way(hall, thing, hand):
    """Whether thing is a way of a hand of a hall."""
    slow = slow_twin(hall)
    if hand in slow.fallen() or not slow.events(hand):
        return thing is None
    if type(thing) is not tuple or not thing:
        return False
    for at, deed in enumerate(thing):
        if not does(slow, deed) or (deed[1] == hand) != (at == len(thing) - 1):
            return False
    return True


def does(slow, deed):
    if type(deed) is not tuple or not all(type(part) is str for part in deed) or deed not in slow.can_do():
        return False
    slow.do((deed,))
    return deed[0] != "fall"


def is_slow_settled(board, hall, thing):
    """Whether thing is a pair that settles a hall."""
    if type(thing) is not tuple or len(thing) != 2 or type(thing[0]) is not tuple or type(thing[1]) is not tuple:
        return False
    slow = slow_twin(hall)
    if not all(does(slow, deed) for deed in thing[0]):
        return False
    at = 0
    for saying in thing[1]:
        steps = {(board[2][at][0], to, word): then for to, word, then in board[2][at][1]} if board[2][at] else {}
        if type(saying) is not tuple or not all(type(part) is str for part in saying) or saying not in steps:
            return False
        at = steps[saying]
        if saying[2] == "!" and saying[0] not in slow.fallen():
            return False
    for hand in board[0]:
        view, told = slow.view(hand), tuple(view_in(thing[1], hand))
        if hand not in slow.fallen():
            if view != told:
                return False
        elif told[:len(view)] != view or [event for event in told[len(view):] if event[0] == "say"]:
            return False
    return True


def is_slow_way_over(net, deeds, thing, hand):
    """Whether thing is a way of a hand over a net that did these deeds."""
    slow = SlowNet(net.ends, net.weak)
    slow.deeds = list(deeds)
    told = slow.replay()
    end = dict(net.ends)[hand]
    if hand in told["fallen"] or not end[net.state_of(hand)]:
        return thing is None
    if type(thing) is not tuple or not thing:
        return False
    for at, deed in enumerate(thing):
        if slow.look(slow.replay(), deed) is not True or deed[0] in ("fall", "lose", "double"):
            return False
        row = slow.do((deed,))[0]
        if (row is not None and row[1] == hand) != (at == len(thing) - 1):
            return False
    return True
