"""Names, boards, and what is come to on them."""

from sayloom.errors import NoBoard, NoHand, NoPlace

FAULT = "!"
MOST_PLACES = 40
MOST_LETTERS = 8
FEWEST_HANDS = 2
MOST_HANDS = 6
MOST_BRANCHES = 8


def is_name(thing):
    """Whether thing is a text of one to eight small letters."""
    if not isinstance(thing, str) or len(thing) > MOST_LETTERS:
        return False
    # Of the signs of other alphabets, and of the great ones, these three let none by.
    return thing.isascii() and thing.isalpha() and thing.islower()


def is_number(thing):
    """Whether thing is a whole number, as True and False are none."""
    return isinstance(thing, int) and not isinstance(thing, bool)


def is_number_below(thing, bound):
    """Whether thing is a whole number from 0 on and below bound."""
    return isinstance(thing, int) and thing is not True and thing is not False and 0 <= thing < bound


def is_tuple_of(thing, least, most):
    """Whether thing is a tuple of least to most things."""
    return isinstance(thing, tuple) and least <= len(thing) <= most


def is_rising(things):
    """Whether things, which can be compared, rise, nothing twice."""
    for at in range(1, len(things)):
        if not things[at - 1] < things[at]:
            return False
    return True


def is_new_name(thing, known):
    """Whether thing, a text, is a name; known, the dict of those looked at, gets it then."""
    if not is_name(thing):
        return False
    known[thing] = True
    return True


def is_board(thing):
    """Whether thing is a board."""
    if not isinstance(thing, tuple) or len(thing) != 3:
        return False
    hands, weak, places = thing
    return _are_hands(hands) and are_weak(weak, hands) and _are_places(places, hands, weak)


def _are_hands(thing):
    if not is_tuple_of(thing, FEWEST_HANDS, MOST_HANDS):
        return False
    return all([is_name(name) for name in thing]) and len(set(thing)) == len(thing)


def are_weak(thing, hands):
    """Whether thing is a rising tuple of some of the hands."""
    if not is_tuple_of(thing, 0, len(hands)):
        return False
    return all([name in hands for name in thing]) and is_rising(thing)


def _are_places(thing, hands, weak):
    if not is_tuple_of(thing, 1, MOST_PLACES):
        return False
    # A word that stands at many places is looked at once.
    known = {FAULT: True}
    for place in thing:
        if place is not None and not _is_saying(place, hands, weak, len(thing), known):
            return False
    return _are_come_to(thing) and all([_stays_fallen(thing, hand) for hand in weak])


def _are_come_to(places):
    """Whether all places are come to from the begin."""
    # Where each other one is come to from one of a lesser number, as is mostly so, there is nothing to be sought.
    ahead = {then for at, place in enumerate(places) if place is not None for _, _, then in place[1] if then > at}
    return len(ahead) == len(places) - 1 or len(places_from(places, [0])) == len(places)


def _is_saying(thing, hands, weak, many, known):
    if not isinstance(thing, tuple) or len(thing) != 2:
        return False
    sayer, branches = thing
    if sayer not in hands or not isinstance(branches, tuple) or not 1 <= len(branches) <= MOST_BRANCHES:
        return False
    last = ()
    faults = 0
    for branch in branches:
        if not isinstance(branch, tuple) or len(branch) != 3:
            return False
        hearer, word, then = branch
        if hearer not in hands or hearer == sayer or not isinstance(word, str):
            return False
        if word not in known and not is_new_name(word, known):
            return False
        if not isinstance(then, int) or then is True or then is False or not 0 <= then < many:
            return False
        # Rising by hearer and word alone tells both: branches rise, and no two have the same of these.
        told = (hearer, word)
        if not last < told:
            return False
        last = told
        if word == FAULT:
            faults += 1
    return faults == int(sayer in weak) and faults < len(branches)


def _stays_fallen(places, hand):
    """Whether hand neither says nor hears where its faults lead to, and behind that."""
    falls = []
    for place in places:
        if place is not None and place[0] == hand:
            falls.extend(falls_of(place))
    return not any([takes_part(places[at], hand) for at in places_from(places, falls)])


def falls_of(place):
    """The list of the numbers of the places to which faults of a place lead."""
    if place is None:
        return []
    return [then for _, word, then in place[1] if word == FAULT]


def takes_part(place, hand):
    """Whether hand says or hears at a place."""
    if place is None:
        return False
    sayer, branches = place
    return sayer == hand or any([branch[0] == hand for branch in branches])


def branches_of(place, without, faults):
    """The branches of a place that without neither says nor hears, with or without those with a fault."""
    if place is None or place[0] == without:
        return []
    return [branch for branch in place[1] if branch[0] != without and (faults or branch[1] != FAULT)]


def places_from(places, starts, without=None, faults=True):
    """The rising list of the numbers of all places that are come to from starts, these too."""
    seen = set(starts)
    left = list(starts)
    while left:
        place = places[left.pop()]
        if place is None or place[0] == without:
            continue
        for hearer, word, then in place[1]:
            if then not in seen and hearer != without and (faults or word != FAULT):
                seen.add(then)
                left.append(then)
    return sorted(seen)


def check_board(board):
    """Refuses what is no board."""
    if not is_board(board):
        raise NoBoard("no board")


def check_hand(board, hand):
    """Refuses what is no hand of a board."""
    if hand not in board[0]:
        raise NoHand(hand)


def check_reach(board, place, without):
    """Refuses what reach refuses, in its order."""
    check_board(board)
    if not is_number_below(place, len(board[2])):
        raise NoPlace(place)
    if without is not None:
        check_hand(board, without)


def hands_of(board):
    """The hands of a board, in its order."""
    check_board(board)
    return board[0]


def weak_of(board):
    """The hands of a board that may fall, rising."""
    check_board(board)
    return board[1]


def reach(board, place, *, without=None, faults=True):
    """The rising row of all places that are come to from a place, itself too.

    Along no branch that the hand without says or hears, along none with a fault where faults is False.
    """
    check_reach(board, place, without)
    return tuple(places_from(board[2], [place], without, faults))
