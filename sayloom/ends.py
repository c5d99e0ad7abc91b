"""Ends of hands: what they do, least ends, and ends that do alike."""

from sayloom.boards import FAULT, is_name, is_number_below, is_rising, is_tuple_of
from sayloom.errors import NoEnd, NoHand, NoPlace, NoView
from sayloom.traces import trace

BEGIN = 0
MOST_OF_END = 100


def is_end(thing):
    """Whether thing is an end of a hand."""
    if not is_tuple_of(thing, 2, 2):
        return False
    hand, states = thing
    if not is_name(hand) or not is_tuple_of(states, 1, MOST_OF_END):
        return False
    return all([_is_state(state, hand, len(states)) for state in states])


def _is_state(thing, hand, many):
    if not isinstance(thing, tuple) or not all([_is_step(step, hand, many) for step in thing]):
        return False
    # Rising by events alone tells both: steps rise, and no two have the same event.
    return is_rising([step[:3] for step in thing])


def _is_step(thing, hand, many):
    if not is_tuple_of(thing, 4, 4) or not is_event(thing[:3]):
        return False
    return thing[1] != hand and is_number_below(thing[3], many)


def is_event(thing):
    """Whether thing is an event of some hand, of whatever names."""
    if not is_tuple_of(thing, 3, 3):
        return False
    kind, other, word = thing
    if kind == "hear" and word == FAULT:
        return is_name(other)
    return kind in ("hear", "say") and is_name(other) and is_name(word)


def is_view(thing):
    """Whether thing is a row of events."""
    return isinstance(thing, tuple) and all([is_event(event) for event in thing])


def check_end(end):
    """Refuses what is no end."""
    if not is_end(end):
        raise NoEnd("no end of a hand")


def check_view(view):
    """Refuses what is no row of events."""
    if not is_view(view):
        raise NoView("no row of events")


def check_state(end, state):
    """Refuses what is no state of an end."""
    if not is_number_below(state, len(end[1])):
        raise NoPlace(state)


def check_same_hand(end, other):
    """Refuses what is no end, then ends of unlike hands."""
    check_end(end)
    check_end(other)
    if end[0] != other[0]:
        raise NoHand(other[0])


def state_by(state, event):
    """The number of the state that comes by an event in a state, or None where it has no such."""
    for kind, other, word, then in state:
        if (kind, other, word) == event:
            return then
    return None


def steps_in(state):
    """The dict from the events of a state, rising, to the states that come by them."""
    return {step[:3]: step[3] for step in state}


def end_behind(end, view, *, start=BEGIN):
    """The state behind a row of events from a state on, or None where the end doesn't do it."""
    check_end(end)
    check_view(view)
    check_state(end, start)
    return state_after(end[1], view, start)


def state_after(states, view, at):
    """The number of the state behind a row of events from a state on, or None where these don't lead."""
    for event in view:
        at = state_by(states[at], event)
        if at is None:
            return None
    return at


def events_at(end, state):
    """The rising row of the events of a state."""
    check_end(end)
    check_state(end, state)
    return tuple(steps_in(end[1][state]))


def is_done(end, state):
    """Whether an end is done in a state."""
    check_end(end)
    check_state(end, state)
    return not end[1][state]


def least_end(end):
    """The end of the fewest states that does alike, its states numbered as they first come."""
    check_end(end)
    hand, states = end
    kinds = kinds_of(states)
    firsts = {}
    for at, kind in enumerate(kinds):
        firsts.setdefault(kind, at)
    order = [kinds[BEGIN]]
    told = []
    while len(told) < len(order):
        steps = []
        for hears, other, word, then in states[firsts[order[len(told)]]]:
            if kinds[then] not in order:
                order.append(kinds[then])
            steps.append((hears, other, word, order.index(kinds[then])))
        told.append(tuple(steps))
    return hand, tuple(told)


def kinds_of(states):
    """For each state a number, the same one just for states from which the same rows of events are done."""
    kinds = [0 for _ in states]
    many = 0
    # Each round parts kinds, or parts none any more.
    while len(set(kinds)) > many:
        many = len(set(kinds))
        numbers = {}
        parted = []
        for at, state in enumerate(states):
            told = (kinds[at], tuple([(kind, other, word, kinds[then]) for kind, other, word, then in state]))
            parted.append(numbers.setdefault(told, len(numbers)))
        kinds = parted
    return kinds


def unlike_view(end, other):
    """The least row of events that just one of both ends does, or None where they do alike."""
    check_same_hand(end, other)
    start = (BEGIN, BEGIN)
    came = {start: None}
    # Pairs come in the order of the least views that lead to them, so the first that parts them tells the least.
    pairs = [start]
    done = 0
    while done < len(pairs):
        pair = pairs[done]
        one, two = steps_in(end[1][pair[0]]), steps_in(other[1][pair[1]])
        unlike = sorted(set(one) ^ set(two))
        if unlike:
            return trace(came, pair) + (unlike[0],)
        pairs.extend(new_pairs(came, pair, one, two))
        done += 1
    return None


def new_pairs(came, pair, one, two):
    """The pairs that come first by an event of the steps one, rising by these; came gets them, too.

    All events of the steps one are events of the steps two.
    """
    found = []
    for event, then in one.items():
        come = (then, two[event])
        if come not in came:
            came[come] = (pair, event)
            found.append(come)
    return found
