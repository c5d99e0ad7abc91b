"""Whether things are names, events, ends, boards: looked at slowly, word by word as the document tells."""

import re


def is_slow_name(thing):
    return type(thing) is str and re.fullmatch("[abcdefghijklmnopqrstuvwxyz]{1,8}", thing) is not None


def is_slow_number(thing, below):
    return type(thing) is int and 0 <= thing < below


def is_slow_event(thing):
    if type(thing) is not tuple or len(thing) != 3 or type(thing[0]) is not str or thing[0] not in ("say", "hear"):
        return False
    if thing[0] == "hear" and type(thing[2]) is str and thing[2] == "!":
        return is_slow_name(thing[1])
    return is_slow_name(thing[1]) and is_slow_name(thing[2])


def is_slow_end(thing):
    if type(thing) is not tuple or len(thing) != 2 or type(thing[1]) is not tuple or not 1 <= len(thing[1]) <= 100:
        return False
    if not is_slow_name(thing[0]):
        return False
    for state in thing[1]:
        if type(state) is not tuple:
            return False
        for step in state:
            if type(step) is not tuple or len(step) != 4 or not is_slow_event(step[:3]) or step[1] == thing[0]:
                return False
            if not is_slow_number(step[3], len(thing[1])):
                return False
        if list(state) != sorted(state) or len({step[:3] for step in state}) != len(state):
            return False
    return True


def are_slow_ends(thing):
    if type(thing) is not tuple or not 2 <= len(thing) <= 6 or not all(map(is_slow_end, thing)):
        return False
    hands = [hand for hand, _ in thing]
    named = {step[1] for _, states in thing for state in states for step in state}
    return len(set(hands)) == len(hands) and named <= set(hands)


def is_slow_board(thing):
    if type(thing) is not tuple or len(thing) != 3 or any(type(part) is not tuple for part in thing):
        return False
    hands, weak, places = thing
    if not 2 <= len(hands) <= 6 or not all(map(is_slow_name, hands)) or len(set(hands)) != len(hands):
        return False
    if not all(map(is_slow_name, weak)) or not set(weak) <= set(hands) or list(weak) != sorted(set(weak)):
        return False
    if not 1 <= len(places) <= 40 or not all(place is None or is_slow_saying(place, hands, places) for place in places):
        return False
    for place in places:
        if place is not None and [word for _, word, _ in place[1]].count("!") != (1 if place[0] in weak else 0):
            return False
        if place is not None and all(word == "!" for _, word, _ in place[1]):
            return False
    return slow_reach(places, 0) == set(range(len(places))) and all(are_silent(places, at) for at in range(len(places)))


def is_slow_saying(place, hands, places):
    if type(place) is not tuple or len(place) != 2 or type(place[1]) is not tuple or not 1 <= len(place[1]) <= 8:
        return False
    if not is_slow_name(place[0]) or place[0] not in hands:
        return False
    for branch in place[1]:
        if type(branch) is not tuple or len(branch) != 3 or not is_slow_name(branch[0]):
            return False
        if branch[0] not in hands or branch[0] == place[0] or type(branch[1]) is not str:
            return False
        if branch[1] != "!" and not is_slow_name(branch[1]) or not is_slow_number(branch[2], len(places)):
            return False
    return list(place[1]) == sorted(place[1]) and len({branch[:2] for branch in place[1]}) == len(place[1])


def slow_reach(places, start):
    found = {start}
    while True:
        more = {then for at in found if places[at] is not None for _, _, then in places[at][1]}
        if more <= found:
            return found
        found |= more


def are_silent(places, at):
    """Whether the sayer of a place takes no part where its fault leads to, nor behind that."""
    for _, word, then in places[at][1] if places[at] is not None else ():
        if word == "!":
            for behind in slow_reach(places, then):
                if places[behind] is not None and places[at][0] in [places[behind][0]] + [b[0] for b in places[behind][1]]:
                    return False
    return True
