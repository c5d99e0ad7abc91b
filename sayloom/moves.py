"""What ends can do over roads, stand by stand, with all of a stand in one flat row.

A flat stand is a tuple of the numbers of the states, -1 of a fallen hand, for each end in order, and behind these of
the rows of words on all roads: that from the end numbered i to the end numbered j stands at i, j by many * (i + 1) + j.
"""

from sayloom.boards import FAULT, is_name, is_number_below
from sayloom.ends import BEGIN

FALLEN = -1


class Moves:
    """The deeds of ends, with a room and weak hands, and what comes of them."""

    def __init__(self, ends, room, weak):
        self.many = len(ends)
        self.room = room
        self.hands = [hand for hand, _ in ends]
        self.weak = [self.hands.index(hand) for hand in weak]
        self.states = [states for _, states in ends]
        # For each end the dict from states to what can be done in them, of those that were asked for.
        self.tables = [{} for _ in ends]
        # All roads, rising by (sayer, hearer), with their numbers.
        pairs = [(one, two) for one in range(self.many) for two in range(self.many) if one != two]
        self.pairs = sorted([(self.hands[one], self.hands[two], self.road(one, two)) for one, two in pairs])

    def road(self, one, two):
        """Where a flat stand has the road from one end to another."""
        return self.many * (one + 1) + two

    def table_at(self, mine, at):
        """What can be done in a state: rows (deed, is it a say, road, word, state then, number of the other)."""
        if at in self.tables[mine]:
            return self.tables[mine][at]
        rows = []
        hand = self.hands[mine]
        for kind, other, word, then in self.states[mine][at]:
            its = self.hands.index(other)
            if kind == "say":
                rows.append((("say", hand, other, word), True, self.road(mine, its), word, then, its))
            else:
                rows.append((("hear", hand, other), False, self.road(its, mine), word, then, its))
        self.tables[mine][at] = rows
        return rows

    def begin(self):
        """The stand from which all begins."""
        return (BEGIN,) * self.many + ((),) * (self.many * self.many)

    def steps_from(self, flat):
        """The list of (deed, number of its end, stand to which it leads) of all deeds but falls."""
        found = []
        for mine in range(self.many):
            at = flat[mine]
            if at == FALLEN:
                continue
            for deed, says, road, word, then, its in self.table_at(mine, at):
                words = flat[road]
                if says:
                    if len(words) == self.room:
                        continue
                    words = words + (word,) if flat[its] != FALLEN else words
                elif words[:1] == (word,):
                    words = words[1:]
                else:
                    continue
                come = list(flat)
                come[mine] = then
                come[road] = words
                found.append((deed, mine, tuple(come)))
        return found

    def falls_from(self, flat):
        """The list of (deed, number of its end, stand to which it leads) of all falls."""
        found = []
        for mine in self.weak:
            if flat[mine] == FALLEN:
                continue
            come = list(flat)
            come[mine] = FALLEN
            for its in range(self.many):
                if its != mine:
                    come[self.road(its, mine)] = ()
                    if flat[its] != FALLEN:
                        come[self.road(mine, its)] += (FAULT,)
            found.append((("fall", self.hands[mine]), mine, tuple(come)))
        return found

    def all_from(self, flat):
        """The list of what steps_from and falls_from tell of a stand."""
        return self.steps_from(flat) + self.falls_from(flat)

    def stand_after(self, flat, deed):
        """The stand behind a deed, or None where it can't be done."""
        for told, _, come in self.all_from(flat):
            if told == deed:
                return come
        return None

    def is_still(self, flat, mine):
        """Whether a hand is done or has fallen."""
        return flat[mine] == FALLEN or not self.states[mine][flat[mine]]

    def left_in(self, flat):
        """The first pair (sayer, hearer) of the road of a living hand that has something, where all hands are still.

        None where some hand isn't, and where no such road has anything.
        """
        if not all([self.is_still(flat, mine) for mine in range(self.many)]):
            return None
        for sayer, hearer, road in self.pairs:
            if flat[road] and flat[self.hands.index(sayer)] != FALLEN:
                return sayer, hearer
        return None

    def named_in(self, mine, flat):
        """The rising row of the hands that the state of a hand names."""
        if flat[mine] == FALLEN:
            return ()
        return tuple(sorted(set([step[1] for step in self.states[mine][flat[mine]]])))

    def told(self, flat):
        """The stand as it is told."""
        roads = [(sayer, hearer, flat[road]) for sayer, hearer, road in self.pairs if flat[road]]
        return flat[:self.many], tuple(roads)

    def flat_of(self, thing):
        """The flat stand of what is told as such, or None of anything else."""
        if not isinstance(thing, tuple) or len(thing) != 2 or not self.are_states(thing[0]):
            return None
        if not isinstance(thing[1], tuple):
            return None
        flat = list(thing[0]) + [()] * (self.many * self.many)
        last = ()
        for road in thing[1]:
            if not isinstance(road, tuple) or len(road) != 3 or not self.is_road(road, thing[0]):
                return None
            # Rising by both hands alone tells both: roads rise, and none stands there twice.
            if not last < road[:2]:
                return None
            last = road[:2]
            flat[self.road(self.hands.index(road[0]), self.hands.index(road[1]))] = road[2]
        return tuple(flat)

    def are_states(self, thing):
        """Whether thing is a row of numbers of states, or FALLEN of weak hands."""
        if not isinstance(thing, tuple) or len(thing) != self.many:
            return False
        for mine, at in enumerate(thing):
            if not is_number_below(at, len(self.states[mine])) and not self.is_fall(mine, at):
                return False
        return True

    def is_fall(self, mine, thing):
        """Whether thing tells that a hand, a weak one, has fallen."""
        return isinstance(thing, int) and thing == FALLEN and mine in self.weak

    def is_road(self, thing, states):
        """Whether a triple is such as a stand tells of a road that has something."""
        sayer, hearer, words = thing
        if sayer not in self.hands or hearer not in self.hands or sayer == hearer:
            return False
        if not isinstance(words, tuple) or not words or states[self.hands.index(hearer)] == FALLEN:
            return False
        if states[self.hands.index(sayer)] == FALLEN:
            if words[-1] != FAULT:
                return False
            words = words[:-1]
        return len(words) <= self.room and all([is_name(word) for word in words])
