"""Ways over a net: deeds by which a hand of a board's made ends comes to its next event, whatever the net did."""

from sayloom.boards import FAULT
from sayloom.errors import Full, LoomError, NoHand
from sayloom.ways import Settling, check_made, goes_on

# What no way has: nobody falls for it, and the net neither loses nor doubles anything for it.
NOT_OF_WAYS = ("fall", "lose", "double")


class Going:
    """A way over a net as it is found: done at a twin, deed by deed, till the hand says or hears."""

    def __init__(self, net, hand):
        self.net = net.twin()
        self.hand = hand
        self.fell = net.fallen()
        self.deeds = []
        self.is_there = False

    def does(self, deed):
        """Does a deed, unless the hand has said or heard already."""
        if not self.is_there:
            row = self.net.do(deed)
            self.deeds.append(deed)
            self.is_there = row is not None and row[1] == self.hand

    def takes_marks(self):
        """Has all living hands take the marks of the fallen ones: no word to these is under way from then on."""
        taken = self.net.marks()
        for hand, _ in self.net.ends:
            for other in self.fell:
                if hand not in self.fell and (hand, other) not in taken:
                    self.does(("mark", hand, other))

    def goes_along(self, settling):
        """Does what is left of a row that covers the net's log, then what leads to the hand's next event."""
        many = {hand: len(self.net.view_of(hand)) for hand, _ in self.net.ends}
        for saying in settling.covering:
            self.goes_by(saying, many)
        if not self.is_there:
            for saying in settling.sayings_to(self.hand):
                self.goes_by(saying, many)

    def goes_by(self, saying, many):
        """Does what is left of a saying; many tells how many of each hand's events are done and not gone by."""
        sayer, hearer, word = saying
        is_said = word == FAULT or self.was_done(many, sayer)
        is_heard = self.was_done(many, hearer)
        if not is_said:
            # What its post said ahead of this was heard; so the answer comes.
            self.delivers(sayer)
            self.does(("say",) + saying)
        if not is_heard and word == FAULT:
            self.does(("mark", hearer, sayer))
        elif not is_heard:
            self.delivers(sayer)

    def was_done(self, many, hand):
        """Whether the next event of a hand is among those that are done already; a fallen one does no more."""
        many[hand] -= 1
        return many[hand] >= 0 or hand in self.fell

    def delivers(self, sayer):
        """Has the word under way of a hand come to its hearer, and the answer come back."""
        copy = self.net.under_way().get(sayer)
        if copy is None:
            return
        if copy not in self.net.copies():
            self.does(("again", sayer))
        self.does(("carry", copy))
        self.does(("carry", ("answer", copy[2], sayer, copy[3])))


def way_over(board, net, *, hand):
    """A way of a hand over a net, or None of one that is done or has fallen."""
    check_made(board, net)
    if not goes_on(net, hand):
        return None
    going = Going(net, hand)
    going.takes_marks()
    if not going.is_there:
        going.goes_along(Settling(board, going.net.log()))
    return tuple(going.deeds)


def shows_way_over(net, thing, *, hand):
    """Whether thing is a way of a hand over a net, or None of one that is done or has fallen."""
    if not goes_on(net, hand):
        return thing is None
    if not isinstance(thing, tuple):
        return False
    other = net.twin()
    is_there = False
    for deed in thing:
        if is_there:
            return False
        try:
            row = other.do(deed)
        except (LoomError, NoHand, Full):
            return False
        if deed[0] in NOT_OF_WAYS:
            return False
        is_there = row is not None and row[1] == hand
    return is_there
