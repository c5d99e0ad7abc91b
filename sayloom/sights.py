"""What a hand can't tell apart: places at which rows with the same view of it end."""

from sayloom.boards import FAULT, places_from
from sayloom.rows import sayings_at
from sayloom.traces import trace


class Sight:
    """What a hand says, hears and can't see at each place, and the pairs of places that it can't tell apart.

    says, hears and unseen are for each place lists of pairs (saying, place that comes then), its own fault in none
    of them. came has the pairs of places, each with the pair where it comes from and the last sayings, None where
    one row stays as it is.
    """

    def __init__(self, places, hand):
        self.places = places
        self.hand = hand
        sayings = [sayings_at(place) for place in places]
        self.says = [[told for told in row if told[0][0] == hand and told[0][2] != FAULT] for row in sayings]
        self.hears = [[told for told in row if told[0][1] == hand] for row in sayings]
        self.unseen = [[told for told in row if hand not in told[0][:2]] for row in sayings]
        start = (0, 0)
        self.came = {start: None}
        pairs = [start]
        done = 0
        while done < len(pairs):
            pairs.extend(self.new_pairs(pairs[done]))
            done += 1

    def new_pairs(self, pair):
        """The pairs to which one saying in one row or the same event in both first leads from a pair."""
        one, two = pair
        steps = [((then, two), (saying, None)) for saying, then in self.unseen[one]]
        steps.extend([((one, then), (None, saying)) for saying, then in self.unseen[two]])
        for saying, then in self.says[one] + self.hears[one]:
            for other, other_then in self.says[two] + self.hears[two]:
                if saying == other:
                    steps.append(((then, other_then), (saying, saying)))
        found = []
        for come, done in steps:
            if come not in self.came:
                self.came[come] = (pair, done)
                found.append(come)
        return found

    def rows_to(self, pair):
        """Two rows with the same view that end at the places of a pair."""
        told = trace(self.came, pair)
        row = [saying for saying, _ in told if saying is not None]
        other = [saying for _, saying in told if saying is not None]
        return tuple(row), tuple(other)

    def may_say(self, at):
        """The dict from the sayings of the hand that are come to from a place without it and faults to True."""
        found = {}
        for place in places_from(self.places, [at], self.hand, False):
            for saying, _ in self.says[place]:
                found[saying] = True
        return found
