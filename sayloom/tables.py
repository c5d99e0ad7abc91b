"""Tables of stands, and runs to a fault: how they are found, and whether something is such."""

from sayloom.boards import is_number, is_rising
from sayloom.errors import TooWide
from sayloom.moves import FALLEN
from sayloom.traces import trace

SOUND = "sound"
FAULTY = "faulty"
WAITS = "waits"
LEFT = "left"


def too_wide(many, most):
    """Refuses more stands than most."""
    if many > most:
        raise TooWide(f"more than {most} stands")


def many_of(moves, most):
    """How many stands come from the begin."""
    found = [moves.begin()]
    seen = {found[0]: True}
    done = 0
    while done < len(found):
        for _, _, come in moves.all_from(found[done]):
            if come not in seen:
                seen[come] = True
                found.append(come)
        too_wide(len(found), most)
        done += 1
    return len(found)


class Walk:
    """All stands that come, by numbers as they first come.

    came tells of each number where it came from; steps are for each the pairs (number of the end that does, number
    of the stand then) of all deeds but falls.
    """

    def __init__(self, moves, most):
        self.moves = moves
        self.stands = [moves.begin()]
        self.came = {0: None}
        self.steps = []
        numbers = {self.stands[0]: 0}
        while len(self.steps) < len(self.stands):
            at = len(self.steps)
            flat = self.stands[at]
            steps = moves.steps_from(flat)
            for deed, _, come in steps + moves.falls_from(flat):
                if come not in numbers:
                    numbers[come] = len(self.stands)
                    self.came[len(self.stands)] = (at, deed)
                    self.stands.append(come)
            too_wide(len(self.stands), most)
            self.steps.append([(mine, numbers[come]) for _, mine, come in steps])
        self.aheads = [[] for _ in self.stands]
        for at, steps in enumerate(self.steps):
            for _, then in steps:
                self.aheads[then].append(at)
        self.numbers = [self.numbers_of(mine) for mine in range(moves.many)]

    def numbers_of(self, mine):
        """For each stand how many deeds lead to a hand's next one: 0 where it is still, None where none do."""
        numbers = [0 if self.moves.is_still(flat, mine) else None for flat in self.stands]
        newest = [at for at, steps in enumerate(self.steps) if mine in [step[0] for step in steps]]
        many = 1
        while newest:
            found = []
            for at in newest:
                if numbers[at] is None:
                    numbers[at] = many
                    found.extend(self.aheads[at])
            newest = found
            many += 1
        return numbers

    def table(self):
        """The table of all stands, with the least numbers."""
        rows = []
        for at, flat in enumerate(self.stands):
            rows.append((self.moves.told(flat), tuple([numbers[at] for numbers in self.numbers])))
        return tuple(sorted(rows))

    def run_to_fault(self):
        """A run to the first stand in which a hand waits for ever or a word is left, or None."""
        for at, flat in enumerate(self.stands):
            for mine in range(self.moves.many):
                if self.numbers[mine][at] is None:
                    return trace(self.came, at), self.waiting(mine, at)
            pair = self.moves.left_in(flat)
            if pair is not None:
                return trace(self.came, at), (LEFT,) + pair
        return None

    def waiting(self, mine, at):
        """The fault that a hand waits for ever in a stand."""
        found = [at]
        seen = {at: True}
        done = 0
        while done < len(found):
            for _, then in self.steps[found[done]]:
                if then not in seen:
                    seen[then] = True
                    found.append(then)
            done += 1
        stands = tuple(sorted([self.moves.told(self.stands[one]) for one in found]))
        return WAITS, self.moves.hands[mine], self.moves.named_in(mine, self.stands[at]), stands


def is_table(moves, thing):
    """Whether thing is a table."""
    if not isinstance(thing, tuple):
        return False
    numbers_of = {}
    for row in thing:
        flat = moves.flat_of(row[0]) if isinstance(row, tuple) and len(row) == 2 else None
        if flat is None or not are_numbers(row[1], moves.many):
            return False
        numbers_of[flat] = row[1]
    if moves.begin() not in numbers_of or not is_rising([row[0] for row in thing]):
        return False
    for flat, numbers in numbers_of.items():
        if not stands_right(moves, flat, numbers, numbers_of):
            return False
    return True


def are_numbers(thing, many):
    """Whether thing is a row of so many whole numbers from 0 on."""
    if not isinstance(thing, tuple) or len(thing) != many:
        return False
    return all([is_number(number) and number >= 0 for number in thing])


def stands_right(moves, flat, numbers, numbers_of):
    """Whether a stand of a table, where the numbers of all are told, has what a table asks of it."""
    steps = moves.steps_from(flat)
    for _, _, come in steps + moves.falls_from(flat):
        if come not in numbers_of:
            return False
    for mine, number in enumerate(numbers):
        if moves.is_still(flat, mine) != (number == 0):
            return False
        if number and not [1 for _, who, come in steps if who == mine or numbers_of[come][mine] < number]:
            return False
    return moves.left_in(flat) is None


def is_run_to_fault(moves, thing):
    """Whether thing is a run to a fault."""
    if not isinstance(thing, tuple) or len(thing) != 2:
        return False
    deeds, fault = thing
    if not isinstance(deeds, tuple) or not isinstance(fault, tuple):
        return False
    flat = moves.begin()
    for deed in deeds:
        flat = moves.stand_after(flat, deed)
        if flat is None:
            return False
    if len(fault) == 3 and fault[0] == LEFT:
        return is_left(moves, flat, fault[1], fault[2])
    return len(fault) == 4 and fault[0] == WAITS and is_waiting(moves, flat, fault[1:])


def is_left(moves, flat, sayer, hearer):
    """Whether all hands are still in a stand, and something is left on the road between two that live."""
    if moves.left_in(flat) is None or sayer not in moves.hands or hearer not in moves.hands:
        return False
    one, two = moves.hands.index(sayer), moves.hands.index(hearer)
    # To a fallen hand no road has something, nor to the hand itself.
    return flat[one] != FALLEN and flat[moves.road(one, two)] != ()


def is_waiting(moves, flat, thing):
    """Whether a triple (hand, others, stands) tells that a hand waits for ever in a stand."""
    hand, others, stands = thing
    if hand not in moves.hands or not isinstance(stands, tuple):
        return False
    mine = moves.hands.index(hand)
    among = {}
    for stand in stands:
        told = moves.flat_of(stand)
        if told is None:
            return False
        among[told] = True
    if flat not in among or not is_rising(stands):
        return False
    for told in among:
        if moves.is_still(told, mine) or moves.named_in(mine, told) != others:
            return False
        for _, who, come in moves.steps_from(told):
            if who == mine or come not in among:
                return False
    return True
