"""Made ends: what each hand knows behind its view, as a machine of its own."""

from sayloom.boards import FAULT, check_board, check_hand, is_number_below, places_from
from sayloom.ends import check_view
from sayloom.errors import NoPlace, TooWide
from sayloom.traces import trace

MOST_STATES = 100


def places_behind(board, hand, view):
    """The rising row of the places at which rows of just that view end in which the hand hasn't fallen."""
    check_board(board)
    check_hand(board, hand)
    check_view(view)
    places = board[2]
    here = silent_from(places, [0], hand)
    for event in view:
        here = silent_from(places, events_from(places, here, hand).get(event, []), hand)
    return here


def silent_from(places, starts, hand):
    """The rising row of the places that are come to from starts without an event or a fall of a hand."""
    return tuple(places_from(places, starts, hand))


def events_from(places, here, hand):
    """The dict from a hand's events at some places to the lists of places that come then."""
    found = {}
    for at in here:
        sayer, branches = places[at] if places[at] is not None else (None, ())
        for hearer, word, then in branches:
            if hearer == hand:
                found.setdefault(("hear", sayer, word), []).append(then)
            elif sayer == hand and word != FAULT:
                found.setdefault(("say", hearer, word), []).append(then)
    return found


class Growth:
    """The states of a made end as they first come: their sets, their steps, and where each came from."""

    def __init__(self, places, hand):
        start = silent_from(places, [0], hand)
        self.sets = [start]
        self.numbers = {start: 0}
        self.came = {0: None}
        self.states = []
        while len(self.states) < len(self.sets):
            self.grow(places, hand)

    def grow(self, places, hand):
        """Adds the steps of the next state."""
        at = len(self.states)
        found = events_from(places, self.sets[at], hand)
        steps = []
        for event in sorted(found):
            then = silent_from(places, found[event], hand)
            steps.append(event + (self.number_of(then, at, event),))
        self.states.append(tuple(steps))

    def number_of(self, then, at, event):
        """The number of a set to which an event leads from a state."""
        if then not in self.numbers:
            if len(self.sets) == MOST_STATES:
                raise TooWide(f"a made end of more than {MOST_STATES} states")
            self.numbers[then] = len(self.sets)
            self.came[len(self.sets)] = (at, event)
            self.sets.append(then)
        return self.numbers[then]


def growth_of(board, hand):
    """The growth of a hand's made end; refuses what is no board, then no hand, then too many states."""
    check_board(board)
    check_hand(board, hand)
    return Growth(board[2], hand)


def made_end(board, hand):
    """The made end of a hand."""
    return hand, tuple(growth_of(board, hand).states)


def sets_of(board, hand):
    """The row of the sets of places of a made end's states."""
    return tuple(growth_of(board, hand).sets)


def view_to(board, hand, state):
    """A shortest view behind which the made end is in a state."""
    growth = growth_of(board, hand)
    if not is_number_below(state, len(growth.sets)):
        raise NoPlace(state)
    return trace(growth.came, state)
