"""Ways on: deeds by which a hand of a board's made ends comes to its next event, and what settles a hall."""

from sayloom.boards import FAULT, check_board, is_number, is_tuple_of
from sayloom.covers import Weaving
from sayloom.errors import Empty, Full, LoomError, NoEnds, NoHand
from sayloom.making import MADE, made
from sayloom.rows import place_after, view_at
from sayloom.stuck import has_word_of


def waits(board):
    """The least waits: for each hand a row of how many sayings come ahead of its next one, for each place."""
    check_board(board)
    return tuple([least_waits(board[2], hand) for hand in board[0]])


def least_waits(places, hand):
    """The least waits of a hand of what is a board."""
    numbers = [0 if has_word_of(place, hand) else None for place in places]
    newest = [at for at, number in enumerate(numbers) if number == 0]
    while newest:
        found = []
        for at, number in enumerate(numbers):
            if number is None and [then for then in spoken_from(places[at]) if then in newest]:
                found.append(at)
        for at in found:
            numbers[at] = numbers[newest[0]] + 1
        newest = found
    return tuple(numbers)


def spoken_from(place):
    """The list of the places to which the branches with words of a place lead."""
    if place is None:
        return []
    return [then for _, word, then in place[1] if word != FAULT]


def shows_waits(board, thing):
    """Whether thing is waits of a board, least or not."""
    check_board(board)
    hands, _, places = board
    if not is_tuple_of(thing, len(hands), len(hands)):
        return False
    return all([are_waits(places, hand, row) for hand, row in zip(hands, thing)])


def are_waits(places, hand, thing):
    """Whether thing is waits of a hand of what is a board."""
    if not is_tuple_of(thing, len(places), len(places)):
        return False
    if not all([number is None or is_number(number) and number >= 0 for number in thing]):
        return False
    for place, number in zip(places, thing):
        if has_word_of(place, hand):
            if number != 0:
                return False
            continue
        comes = [thing[then] for then in spoken_from(place) if thing[then] is not None]
        if number is None and comes or number is not None and not [come for come in comes if come < number]:
            return False
    return True


class Settling:
    """How a hall of a board's made ends, or what has such a log, is settled along a row that covers its log."""

    def __init__(self, board, log):
        self.board = board
        self.fell = [row[1] for row in log if row[0] == "fall"]
        self.covering = Weaving(board, log).woven()
        self.deeds = []
        # How many of each hand's events in the row are done already.
        many = {hand: 0 for hand in board[0]}
        for row in log:
            if row[0] != "fall":
                many[row[1]] += 1
        for sayer, hearer, word in self.covering:
            if word != FAULT and not self.was_done(many, sayer):
                self.deeds.append(("say", sayer, hearer, word))
            if not self.was_done(many, hearer) and hearer not in self.fell:
                self.deeds.append(("hear", hearer, sayer))

    def was_done(self, many, hand):
        """Whether the next event of a hand is among those that are done already."""
        many[hand] -= 1
        return many[hand] >= 0

    def way_of(self, hand):
        """A way of a hand that lives and isn't done."""
        for at, deed in enumerate(self.deeds):
            if deed[1] == hand:
                return tuple(self.deeds[:at + 1])
        return tuple(self.deeds) + self.way_on(hand)

    def way_on(self, hand):
        """A way of a hand from where all is settled."""
        return tuple(deeds_along(self.sayings_to(hand), self.fell, hand))

    def sayings_to(self, hand):
        """The list of sayings by which a row goes on from where all is settled to an event of a hand."""
        places = self.board[2]
        numbers = least_waits(places, hand)
        at = place_after(places, self.covering)
        sayings = []
        while not view_at(sayings[-1:], hand):
            sayer, branches = places[at]
            hearer, word, at = next_branch(sayer, branches, sayer in self.fell, numbers, hand)
            sayings.append((sayer, hearer, word))
        return sayings


def next_branch(sayer, branches, has_fallen, numbers, hand):
    """The branch along which a way of a hand goes on: by a fallen sayer's fault, else nearer to the hand's event."""
    if has_fallen:
        return [branch for branch in branches if branch[1] == FAULT][0]
    spoken = [branch for branch in branches if branch[1] != FAULT]
    mine = [branch for branch in spoken if hand in (sayer, branch[0])]
    if mine:
        return mine[0]
    return min([branch for branch in spoken if numbers[branch[2]] is not None], key=lambda branch: numbers[branch[2]])


def deeds_along(sayings, fell, hand):
    """The list of the deeds of sayings, each word and fault heard at once, up to the first of a hand."""
    deeds = []
    for sayer, hearer, word in sayings:
        if word != FAULT:
            deeds.append(("say", sayer, hearer, word))
        if hearer not in fell and sayer != hand:
            deeds.append(("hear", hearer, sayer))
    return deeds


def check_made(board, hall):
    """Refuses what is no board, or none whose made ends a hall, or a net, has."""
    kind, ends = made(board)
    if kind != MADE or hall.ends != ends or hall.weak != board[1]:
        raise NoEnds("not the made ends of a let board")


def way_on(board, hall, *, hand):
    """A way of a hand, or None of one that is done or has fallen."""
    check_made(board, hall)
    return Settling(board, hall.log()).way_of(hand) if goes_on(hall, hand) else None


def ways_on(board, hall):
    """The dict from all living hands that aren't done to their ways."""
    check_made(board, hall)
    settling = Settling(board, hall.log())
    return {hand: settling.way_of(hand) for hand in board[0] if goes_on(hall, hand)}


def settled(board, hall):
    """A pair of deeds and a row that settles a hall."""
    check_made(board, hall)
    settling = Settling(board, hall.log())
    return tuple(settling.deeds), settling.covering


def goes_on(hall, hand):
    """Whether a hand of a hall, or of a net, lives and isn't done; refuses what has no end there."""
    return not hall.is_done(hand) and hand not in hall.fallen()


def shows_way(hall, thing, *, hand):
    """Whether thing is a way of a hand, or None of one that is done or has fallen."""
    if not goes_on(hall, hand):
        return thing is None
    if not isinstance(thing, tuple) or not does_all(hall.twin(), thing):
        return False
    return [deed[1] == hand for deed in thing] == [False] * (len(thing) - 1) + [True]


def does_all(hall, deeds):
    """Whether a hall can do deeds, none of them a fall, one behind another; it does them."""
    for deed in deeds:
        try:
            row = hall.do(deed)
        except (LoomError, NoHand, Empty, Full):
            return False
        if row[0] == "fall":
            return False
    return True


def shows_settled(board, hall, thing):
    """Whether thing is a pair of deeds and a row that settles a hall."""
    check_made(board, hall)
    if not is_tuple_of(thing, 2, 2):
        return False
    deeds, row = thing
    if not isinstance(deeds, tuple) or place_after(board[2], row) is None:
        return False
    other = hall.twin()
    return does_all(other, deeds) and is_settled(board, other, row)


def is_settled(board, hall, row):
    """Whether each hand's view in a hall is as a row that settles it tells."""
    fallen = hall.fallen()
    if [sayer for sayer, _, word in row if word == FAULT and sayer not in fallen]:
        return False
    for hand, view in hall.views().items():
        told = view_at(row, hand)
        rest = told[len(view):]
        if told[:len(view)] != view or rest and hand not in fallen:
            return False
        if "say" in [event[0] for event in rest]:
            return False
    return True
