"""Ends of hands: what they do, least ends, and ends that do alike."""

from sayloom.boards import FAULT, is_name, is_number_below, is_tuple_of
from sayloom.errors import NoEnd, NoHand, NoPlace, NoView
from sayloom.traces import trace

BEGIN = 0
MOST_OF_END = 100


def is_end(thing):
    """Whether thing is an end of a hand."""
    return is_end_among(thing, None)


def is_end_among(thing, hands):
    """Whether thing is an end of a hand that names no others than some hands; None stands for whatever names."""
    if not isinstance(thing, tuple) or len(thing) != 2:
        return False
    hand, states = thing
    if not is_name(hand) or not is_tuple_of(states, 1, MOST_OF_END):
        return False
    many = len(states)
    # An event that stands in many states is looked at once.
    known = {}
    for state in states:
        if not isinstance(state, tuple):
            return False
        last = ()
        for step in state:
            if not isinstance(step, tuple) or len(step) != 4:
                return False
            kind, other, word, then = step
            if not isinstance(kind, str) or not isinstance(other, str) or not isinstance(word, str):
                return False
            event = (kind, other, word)
            if event not in known and not _is_new_event(event, hand, hands, known):
                return False
            if not isinstance(then, int) or then is True or then is False or not 0 <= then < many:
                return False
            # Rising by events alone tells both: steps rise, and no two have the same event.
            if not last < event:
                return False
            last = event
    return True


def _is_new_event(event, hand, hands, known):
    """Whether texts are an event of a hand that names one of some hands; known gets it then."""
    if not is_event(event) or event[1] == hand or hands is not None and event[1] not in hands:
        return False
    known[event] = True
    return True


def is_event(thing):
    """Whether thing is an event of some hand, of whatever names."""
    if not isinstance(thing, tuple) or len(thing) != 3:
        return False
    kind, other, word = thing
    if kind == "say":
        return is_name(other) and is_name(word)
    return kind == "hear" and is_name(other) and (is_name(word) or word == FAULT)


def is_view(thing):
    """Whether thing is a row of events."""
    return isinstance(thing, tuple) and all([is_event(event) for event in thing])


def check_end(end):
    """Refuses what is no end."""
    if not is_end(end):
        raise NoEnd("no end of a hand")


def check_view(view):
    """Refuses what is no row of events."""
    if not is_view(view):
        raise NoView("no row of events")


def check_state(end, state):
    """Refuses what is no state of an end."""
    if not is_number_below(state, len(end[1])):
        raise NoPlace(state)


def check_same_hand(end, other):
    """Refuses what is no end, then ends of unlike hands."""
    check_end(end)
    check_end(other)
    if end[0] != other[0]:
        raise NoHand(other[0])


def state_by(state, event):
    """The number of the state that comes by an event in a state, or None where it has no such."""
    for kind, other, word, then in state:
        if (kind, other, word) == event:
            return then
    return None


def events_in(state):
    """The list of the events of a state, rising."""
    return [step[:3] for step in state]


def end_behind(end, view, *, start=BEGIN):
    """The state behind a row of events from a state on, or None where the end doesn't do it."""
    check_end(end)
    if not isinstance(view, tuple) or not is_number_below(start, len(end[1])):
        check_view(view)
        raise NoPlace(start)
    state, done = walk_along(end[1], view, start)
    # What an end does are events: just the others need be looked at.
    check_view(view[done:])
    return state


def walk_along(states, thing, at):
    """The pair of the state behind a row of anything from a state on, or None, and of how many of it are done."""
    for done, event in enumerate(thing):
        for kind, other, word, then in states[at]:
            if (kind, other, word) == event:
                at = then
                break
        else:
            return None, done
    return at, len(thing)


def events_at(end, state):
    """The rising row of the events of a state."""
    check_end(end)
    check_state(end, state)
    return tuple(events_in(end[1][state]))


def is_done(end, state):
    """Whether an end is done in a state."""
    check_end(end)
    check_state(end, state)
    return not end[1][state]


def least_end(end):
    """The end of the fewest states that does alike, its states numbered as they first come."""
    check_end(end)
    hand, states = end
    kinds = kinds_of(states)
    firsts = {}
    for at, kind in enumerate(kinds):
        firsts.setdefault(kind, at)
    order = [kinds[BEGIN]]
    told = []
    while len(told) < len(order):
        steps = []
        for hears, other, word, then in states[firsts[order[len(told)]]]:
            if kinds[then] not in order:
                order.append(kinds[then])
            steps.append((hears, other, word, order.index(kinds[then])))
        told.append(tuple(steps))
    return hand, tuple(told)


def kinds_of(states):
    """For each state a number, the same one just for states from which the same rows of events are done."""
    kinds = [0 for _ in states]
    many = 0
    # Each round parts kinds, or parts none any more.
    while len(set(kinds)) > many:
        many = len(set(kinds))
        numbers = {}
        parted = []
        for at, state in enumerate(states):
            told = (kinds[at], tuple([(kind, other, word, kinds[then]) for kind, other, word, then in state]))
            parted.append(numbers.setdefault(told, len(numbers)))
        kinds = parted
    return kinds


def unlike_view(end, other):
    """The least row of events that just one of both ends does, or None where they do alike."""
    check_same_hand(end, other)
    start = (BEGIN, BEGIN)
    came = {start: None}
    # Pairs come in the order of the least views that lead to them, so the first that parts them tells the least.
    pairs = [start]
    done = 0
    while done < len(pairs):
        pair = pairs[done]
        mine, its = end[1][pair[0]], other[1][pair[1]]
        comes = pairs_by(mine, its)
        if comes is None:
            unlike = sorted(set(events_in(mine)) ^ set(events_in(its)))
            return trace(came, pair) + (unlike[0],)
        for step, come in zip(mine, comes):
            if come not in came:
                came[come] = (pair, step[:3])
                pairs.append(come)
        done += 1
    return None


def pairs_by(state, other):
    """The list of the pairs that come by the events of two states, rising, or None where these aren't the same."""
    if len(state) != len(other):
        return None
    found = []
    for (kind, hand, word, then), (other_kind, other_hand, other_word, other_then) in zip(state, other):
        if word != other_word or hand != other_hand or kind != other_kind:
            return None
        found.append((then, other_then))
    return found
