"""Ends that keep others: what they hear and say instead of them, and papers of it."""

from sayloom.boards import is_number_below, is_rising, is_tuple_of
from sayloom.ends import BEGIN, check_same_hand, events_in, pairs_by, walk_along
from sayloom.traces import trace

KEEPS = "keeps"
BREAKS = "breaks"


def keeps(end, other):
    """Whether an end keeps another one: the pairs of states by which it is seen, or where it breaks."""
    check_same_hand(end, other)
    start = (BEGIN, BEGIN)
    came = {start: None}
    pairs = [start]
    done = 0
    while done < len(pairs):
        pair = pairs[done]
        mine, its = end[1][pair[0]], other[1][pair[1]]
        comes = pairs_by(mine, its)
        if comes is None:
            comes = kept_pairs(mine, its)
        if comes is None:
            return BREAKS, trace(came, pair), breaks_in(mine, its)[0]
        for step, come in zip(mine, comes):
            if come not in came:
                came[come] = (pair, step[:3])
                pairs.append(come)
        done += 1
    return KEEPS, tuple(sorted(pairs))


def kept_pairs(mine, its):
    """The list of the pairs that come by the events of a state, or None where it breaks the other one."""
    if breaks_in(mine, its):
        return None
    steps = {step[:3]: step[3] for step in its}
    return [(step[3], steps[step[:3]]) for step in mine]


def breaks_in(mine, its):
    """All by which a state breaks the other one: events, at last None where that says and it doesn't."""
    events, others = events_in(mine), events_in(its)
    has = set(events)
    other_has = set(others)
    found = [event for event in events if event not in other_has]
    found.extend([event for event in others if event[0] == "hear" and event not in has])
    if says_some(others) and not says_some(events):
        found.append(None)
    return found


def says_some(events):
    """Whether one of the events is a say."""
    return "say" in [event[0] for event in events]


def shows_keeps(end, other, thing):
    """Whether thing is such as keeps tells of these ends."""
    check_same_hand(end, other)
    if is_tuple_of(thing, 2, 2) and thing[0] == KEEPS:
        return _are_keeping(end[1], other[1], thing[1])
    if is_tuple_of(thing, 3, 3) and thing[0] == BREAKS:
        return _is_break(end[1], other[1], thing[1], thing[2])
    return False


def _are_keeping(states, others, thing):
    if not isinstance(thing, tuple) or not all([_is_pair(pair, len(states), len(others)) for pair in thing]):
        return False
    if not thing or thing[0] != (BEGIN, BEGIN) or not is_rising(thing):
        return False
    pairs = set(thing)
    for mine, its in thing:
        comes = pairs_by(states[mine], others[its])
        if comes is None:
            comes = kept_pairs(states[mine], others[its])
        if comes is None or not all([pair in pairs for pair in comes]):
            return False
    return True


def _is_pair(thing, many, others):
    if not isinstance(thing, tuple) or len(thing) != 2:
        return False
    return is_number_below(thing[0], many) and is_number_below(thing[1], others)


def _is_break(states, others, view, event):
    if not isinstance(view, tuple):
        return False
    one, _ = walk_along(states, view, BEGIN)
    two, _ = walk_along(others, view, BEGIN)
    if one is None or two is None:
        return False
    return event in breaks_in(states[one], others[two])
