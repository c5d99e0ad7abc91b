"""The refusals of all stages, a class for each kind."""


class LoomError(ValueError):
    """A refusal that is made of a text, its str."""

    def __init__(self, text):
        ValueError.__init__(self, text)


class NoBoard(LoomError):
    """What should be a board, or boards, is none."""


class NoEnd(LoomError):
    """What should be an end of a hand is none."""


class NoRow(LoomError):
    """What should be a row, a run or a log is none."""


class NoEnds(LoomError):
    """What should be ends is none, or none can be made."""


class NoDeed(LoomError):
    """What should be a deed is none, or can't be done."""


class NoView(LoomError):
    """What should be a row of events is none."""


class NoRoom(LoomError):
    """What should be the room of roads is none."""


class TooWide(LoomError):
    """More would come than may."""


class NoText(LoomError):
    """What should be the text of a talk is none; at is the number of a word of it."""

    def __init__(self, at):
        LoomError.__init__(self, f"no text of a talk: word {at!r}")
        self.at = at


class NoHand(KeyError):
    """hand, as it was handed in, is no hand here."""

    def __init__(self, hand):
        KeyError.__init__(self, f"no hand here: {hand!r}")
        self.hand = hand


class NoPlace(IndexError):
    """place, as it was handed in, is the number of nothing here."""

    def __init__(self, place):
        IndexError.__init__(self, f"no place here: {place!r}")
        self.place = place


class Empty(LookupError):
    """The road from sayer to hearer has nothing."""

    def __init__(self, sayer, hearer):
        LookupError.__init__(self, f"nothing on the road from {sayer!r} to {hearer!r}")
        self.sayer = sayer
        self.hearer = hearer


class Full(OverflowError):
    """The road from sayer to hearer takes no more words."""

    def __init__(self, sayer, hearer):
        OverflowError.__init__(self, f"no room on the road from {sayer!r} to {hearer!r}")
        self.sayer = sayer
        self.hearer = hearer
