"""Which kinds of stuck papers a hand has, as it is seen of the states of its made end."""

from sayloom.boards import FAULT
from sayloom.made import closures, row_of_set
from sayloom.rows import place_by, sayings_at
from sayloom.stuck import has_word_of, hold_on
from sayloom.traces import trace

# Stands ahead of all looks of a search: no place has this number.
AHEAD = (-1, (), ())


class Signs:
    """What the states of a hand's made end tell: rows with the same view end at all places of a state's set."""

    def __init__(self, places, hand, growth):
        self.places = places
        self.hand = hand
        self.sets = growth.sets
        self.states = growth.states
        # What was worked out already, None or nothing at first.
        self.going = None
        self.quiet = None
        self.waited = {}

    def has(self, kind):
        """Whether the hand has papers of a kind."""
        if kind == "ends":
            return self.has_ends()
        if kind == "fault":
            return self.has_fault()
        if kind == "mixed":
            return self.has_mixed()
        return self.has_says() if kind == "says" else self.has_race()

    def has_ends(self):
        """Whether behind a view the hand may have an event, or perhaps none ever."""
        stays = ~self.goes_on()
        for state, bits in zip(self.states, self.sets):
            if state and bits & stays:
                return True
        return False

    def goes_on(self):
        """The set of the places from which a row without faults goes on to a word that the hand says or hears."""
        if self.going is None:
            steps = [[then for told, then in sayings_at(place) if told[2] != FAULT] for place in self.places]
            words = bits_of([has_word_of(place, self.hand) for place in self.places])
            self.going = bits_of([bits & words for bits in closures(steps)])
        return self.going

    def has_fault(self):
        """Whether behind a view the hand may hear a fault, or another sayer."""
        for state in self.states:
            if FAULT in [step[2] for step in heard_of_several(state)]:
                return True
        return False

    def has_mixed(self):
        """Whether behind a view the hand may say something, or hear something."""
        # Steps rise: what is heard stands ahead of what is said.
        for state in self.states:
            if state and state[0][0] != state[-1][0]:
                return True
        return False

    def has_says(self):
        """Whether behind a view the hand may say what it can't be waited for at another place."""
        for state, bits in zip(self.states, self.sets):
            # What is said at the only place that there is need not be waited for.
            if not state or state[-1][0] == "hear" or not bits & (bits - 1):
                continue
            for kind, hearer, word, _ in state:
                if kind == "say" and bits & ~self.waiting((self.hand, hearer, word)):
                    return True
        return False

    def is_waited_for(self, saying, place):
        """Whether a saying of the hand is come to from a place without the hand and without faults."""
        return bool(self.waiting(saying) >> place & 1)

    def waiting(self, saying):
        """The set of the places from which a saying of the hand is come to without the hand and without faults."""
        if self.quiet is None:
            self.quiet = closures([quiet_steps(place, self.hand) for place in self.places])
        if saying not in self.waited:
            at = bits_of([place_by(place, saying) is not None for place in self.places])
            self.waited[saying] = bits_of([bits & at for bits in self.quiet])
        return self.waited[saying]

    def has_race(self):
        """Whether the hand may hear first what a hand says that doesn't wait for it."""
        for last, begins in self.races().items():
            if way_to_race(self.places, self.hand, last, begins) is not None:
                return True
        return False

    def races(self):
        """As races_of, but for the pairs of places, which aren't told."""
        found = {}
        for state, bits in zip(self.states, self.sets):
            if not heard_of_several(state):
                continue
            heard = []
            for place in row_of_set(bits):
                heard.extend([told for told in sayings_at(self.places[place]) if told[0][1] == self.hand])
            for last, _ in heard:
                for told in heard:
                    if last[0] != told[0][0] and FAULT not in (last[2], told[0][2]):
                        found.setdefault(last, {}).setdefault(told, None)
        return found


def bits_of(truths):
    """The set of the numbers of those that hold."""
    return sum([1 << at for at, truth in enumerate(truths) if truth])


def quiet_steps(place, hand):
    """The list of the places that come by branches with words which a hand neither says nor hears."""
    if place is None or place[0] == hand:
        return []
    return [then for hearer, word, then in place[1] if hearer != hand and word != FAULT]


def heard_of_several(state):
    """The list of the hearings of a state, where there are such of several sayers."""
    if len(state) < 2 or state[0][0] != "hear":
        return []
    heard = [step for step in state if step[0] == "hear"]
    return heard if heard[0][1] != heard[-1][1] else []


def races_of(sight):
    """The dict from each word that is heard to the words of other sayers that may be heard in its place.

    These are dicts from the pairs (saying, place behind it) to a pair of places with both.
    """
    found = {}
    number = 0
    pair = sight.pair_at(number)
    while pair is not None:
        for last, _ in sight.hears[pair[0]]:
            for heard in sight.hears[pair[1]]:
                if last[0] != heard[0][0] and FAULT not in (last[2], heard[0][2]):
                    found.setdefault(last, {}).setdefault(heard, pair)
        number += 1
        pair = sight.pair_at(number)
    return found


def way_to_race(places, hand, last, begins):
    """How a row goes on to last, the hand held back from another sayer's word on, or None.

    Told are (pair, that saying) and the sayings between both. Looks are a place, who is held back, who is mute.
    """
    came = {AHEAD: None}
    looks = []
    for (heard, then), pair in begins.items():
        look = (then, (hand,), ())
        if look not in came:
            came[look] = (AHEAD, (pair, heard))
            looks.append(look)
    done = 0
    while done < len(looks):
        look = looks[done]
        for saying, then in sayings_at(places[look[0]]):
            if saying == last:
                return trace(came, look)
            # Its sayer says nothing else to the hand from there on.
            holding = hold_on(look[1:], saying) if saying[:2] != last[:2] else None
            if holding is not None and last[0] not in holding[0]:
                come = (then,) + holding
                if come not in came:
                    came[come] = (look, saying)
                    looks.append(come)
        done += 1
    return None
