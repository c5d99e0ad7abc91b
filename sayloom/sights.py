"""What a hand can't tell apart: places at which rows with the same view of it end."""

from sayloom.boards import FAULT
from sayloom.rows import sayings_at
from sayloom.traces import trace


class Sight:
    """What a hand says, hears and can't see at each place, and the pairs of places that it can't tell apart.

    says, hears and unseen are for each place lists of pairs (saying, place that comes then), its own fault in none
    of them. pairs has the pairs of places as they come, as far as they were asked for; came tells of each the pair
    where it comes from and the last sayings, None where one row stays as it is.
    """

    def __init__(self, places, hand):
        self.places = places
        self.hand = hand
        sayings = [sayings_at(place) for place in places]
        self.says = [[told for told in row if told[0][0] == hand and told[0][2] != FAULT] for row in sayings]
        self.hears = [[told for told in row if told[0][1] == hand] for row in sayings]
        self.unseen = [[told for told in row if hand not in told[0][:2]] for row in sayings]
        self.seen = [dict(says + hears) for says, hears in zip(self.says, self.hears)]
        start = (0, 0)
        self.came = {start: None}
        self.pairs = [start]
        # How many of the pairs were gone on from.
        self.done = 0

    def pair_at(self, number):
        """The pair of such a number, or None where there are fewer."""
        while number >= len(self.pairs) and self.done < len(self.pairs):
            self.go_on(self.pairs[self.done])
            self.done += 1
        return self.pairs[number] if number < len(self.pairs) else None

    def go_on(self, pair):
        """Adds the pairs to which one saying in one row or the same event in both first leads from a pair."""
        came, pairs = self.came, self.pairs
        one, two = pair
        for saying, then in self.unseen[one]:
            if (then, two) not in came:
                came[then, two] = (pair, (saying, None))
                pairs.append((then, two))
        for saying, then in self.unseen[two]:
            if (one, then) not in came:
                came[one, then] = (pair, (None, saying))
                pairs.append((one, then))
        others = self.seen[two]
        for saying, then in self.seen[one].items():
            if saying in others:
                come = (then, others[saying])
                if come not in came:
                    came[come] = (pair, (saying, saying))
                    pairs.append(come)

    def rows_to(self, pair):
        """Two rows with the same view that end at the places of a pair."""
        told = trace(self.came, pair)
        row = [saying for saying, _ in told if saying is not None]
        other = [saying for _, saying in told if saying is not None]
        return tuple(row), tuple(other)
