"""Ends that keep others: what they hear and say instead of them, and papers of it."""

from sayloom.boards import is_number_below, is_rising, is_tuple_of
from sayloom.ends import BEGIN, check_same_hand, is_view, new_pairs, state_after, steps_in
from sayloom.traces import trace

KEEPS = "keeps"
BREAKS = "breaks"


def keeps(end, other):
    """Whether an end keeps another one: the pairs of states by which it is seen, or where it breaks."""
    check_same_hand(end, other)
    start = (BEGIN, BEGIN)
    came = {start: None}
    pairs = [start]
    done = 0
    while done < len(pairs):
        pair = pairs[done]
        one, two = steps_in(end[1][pair[0]]), steps_in(other[1][pair[1]])
        breaks = breaks_in(one, two)
        if breaks:
            return BREAKS, trace(came, pair), breaks[0]
        pairs.extend(new_pairs(came, pair, one, two))
        done += 1
    return KEEPS, tuple(sorted(pairs))


def breaks_in(one, two):
    """All by which the steps one break the steps two: events, at last None where two say and one don't."""
    found = [event for event in one if event not in two]
    found.extend([event for event in two if event[0] == "hear" and event not in one])
    if says_some(two) and not says_some(one):
        found.append(None)
    return found


def says_some(steps):
    """Whether some event of the steps is a say."""
    return "say" in [event[0] for event in steps]


def shows_keeps(end, other, thing):
    """Whether thing is such as keeps tells of these ends."""
    check_same_hand(end, other)
    if is_tuple_of(thing, 2, 2) and thing[0] == KEEPS:
        return _are_keeping(end[1], other[1], thing[1])
    if is_tuple_of(thing, 3, 3) and thing[0] == BREAKS:
        return _is_break(end[1], other[1], thing[1], thing[2])
    return False


def _are_keeping(states, others, thing):
    if not isinstance(thing, tuple) or not all([_is_pair(pair, states, others) for pair in thing]):
        return False
    if not thing or thing[0] != (BEGIN, BEGIN) or not is_rising(thing):
        return False
    pairs = set(thing)
    for mine, its in thing:
        one, two = steps_in(states[mine]), steps_in(others[its])
        # Where nothing breaks, all events of the one are events of the other.
        if breaks_in(one, two) or not all([(one[event], two[event]) in pairs for event in one]):
            return False
    return True


def _is_pair(thing, states, others):
    if not is_tuple_of(thing, 2, 2):
        return False
    return is_number_below(thing[0], len(states)) and is_number_below(thing[1], len(others))


def _is_break(states, others, view, event):
    if not is_view(view):
        return False
    one = state_after(states, view, BEGIN)
    two = state_after(others, view, BEGIN)
    if one is None or two is None:
        return False
    return event in breaks_in(steps_in(states[one]), steps_in(others[two]))
