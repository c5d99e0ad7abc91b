"""Made ends: what each hand knows behind its view, as a machine of its own."""

from sayloom.boards import FAULT, check_board, check_hand, is_number_below
from sayloom.ends import check_view
from sayloom.errors import NoPlace, TooWide
from sayloom.traces import trace

MOST_STATES = 100


def places_behind(board, hand, view):
    """The rising row of the places at which rows of just that view end in which the hand hasn't fallen."""
    check_board(board)
    check_hand(board, hand)
    check_view(view)
    paths = Paths(board[2], hand)
    here = paths.behind[0]
    for event in view:
        here = dict(paths.events_from(here)).get(event, 0)
    return row_of_set(here)


def row_of_set(bits):
    """The rising row of the places of a set."""
    row = []
    while bits:
        low = bits & -bits
        row.append(low.bit_length() - 1)
        bits ^= low
    return tuple(row)


class Paths:
    """What a hand of a board can see, and what it can't. A set of places is a number, with a bit for each of them.

    events has for each place the pairs (event of the hand there, place that comes then), rising; telling is the set
    of the places that have any. behind has for each place the set of those that are come to from it without an event
    or a fall of the hand.
    """

    def __init__(self, places, hand):
        self.events = []
        self.telling = 0
        unseen = []
        for at, place in enumerate(places):
            events, silent = [], []
            sayer, branches = place if place is not None else (None, ())
            if sayer == hand:
                events = [(("say", hearer, word), then) for hearer, word, then in branches if word != FAULT]
            else:
                for hearer, word, then in branches:
                    if hearer == hand:
                        events.append((("hear", sayer, word), then))
                    else:
                        silent.append(then)
            self.events.append(events)
            unseen.append(silent)
            if events:
                self.telling |= 1 << at
        self.behind = closures(unseen)

    def events_from(self, here):
        """The list of pairs (event of the hand at places of a set, set to which it leads), rising."""
        left = here & self.telling
        low = left & -left
        if left == low:
            events = self.events[low.bit_length() - 1] if left else []
            return [(event, self.behind[then]) for event, then in events]
        found = {}
        while left:
            low = left & -left
            left ^= low
            for event, then in self.events[low.bit_length() - 1]:
                found[event] = found.get(event, 0) | self.behind[then]
        return [(event, found[event]) for event in sorted(found)]


def closures(steps):
    """For each place the set of those that are come to from it by steps, itself too."""
    behind = [1 << at for at in range(len(steps))]
    # Most steps lead to later places: from the last one on few rounds are enough.
    going = [at for at in range(len(steps)) if steps[at]][::-1]
    grown = True
    while grown:
        grown = False
        for at in going:
            bits = behind[at]
            for then in steps[at]:
                bits |= behind[then]
            if bits != behind[at]:
                behind[at] = bits
                grown = True
    return behind


class Growth:
    """The states of a made end as they first come: their sets, their steps, and where each came from."""

    def __init__(self, places, hand):
        paths = Paths(places, hand)
        sets = [paths.behind[0]]
        numbers = {sets[0]: 0}
        came = {0: None}
        states = []
        while len(states) < len(sets):
            steps = []
            for event, bits in paths.events_from(sets[len(states)]):
                number = numbers.get(bits)
                if number is None:
                    number = len(sets)
                    if number == MOST_STATES:
                        raise TooWide(f"a made end of more than {MOST_STATES} states")
                    numbers[bits] = number
                    came[number] = (len(states), event)
                    sets.append(bits)
                steps.append(event + (number,))
            states.append(tuple(steps))
        self.sets = sets
        self.came = came
        self.states = states


def growth_of(board, hand):
    """The growth of a hand's made end; refuses what is no board, then no hand, then too many states."""
    check_board(board)
    check_hand(board, hand)
    return Growth(board[2], hand)


def made_end(board, hand):
    """The made end of a hand."""
    return hand, tuple(growth_of(board, hand).states)


def sets_of(board, hand):
    """The row of the sets of places of a made end's states."""
    return tuple([row_of_set(bits) for bits in growth_of(board, hand).sets])


def view_to(board, hand, state):
    """A shortest view behind which the made end is in a state."""
    growth = growth_of(board, hand)
    if not is_number_below(state, len(growth.sets)):
        raise NoPlace(state)
    return trace(growth.came, state)
