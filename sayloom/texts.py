"""Texts of talks: read as boards in order, and boards written as texts."""

from sayloom.boards import FAULT, MOST_PLACES, check_board, falls_of, places_from, takes_part
from sayloom.errors import NoText, TooWide
from sayloom.forms import form_of

MOST = 40
LETTERS = "abcdefghijklmnopqrstuvwxyz"
# Stand for an END where places are not numbered yet: all ENDs are one place then.
END_KEY = (-1, ())
END_NUMBER = -1


def read_talk(text, *, most=MOST):
    """The board, in order, of a text of a talk."""
    return Laying(text, most).board


def points(text, *, most=MOST):
    """For each place of a text's board None of an END, or (part, hands, number of the sayer's word) of a saying."""
    laying = Laying(text, most)
    return tuple([laying.point_of(key) for key in laying.order])


def in_order(board):
    """The board in order that has just the same rows."""
    check_board(board)
    hands, weak, places = board

    def place_at(key):
        return None if key == END_NUMBER else keyed_place(places, key)

    laid, _ = lay_out(place_key(places, 0), place_at, MOST_PLACES)
    return hands, weak, laid


def place_key(places, at):
    """The number of a place, or that which stands for all ENDs."""
    return END_NUMBER if places[at] is None else at


def keyed_place(places, at):
    """A saying whose branches lead to keys."""
    sayer, branches = places[at]
    return sayer, [(hearer, word, place_key(places, then)) for hearer, word, then in branches]


def lay_out(start, place_at, most):
    """The places from the key start on, numbered as they first come, and the list of their keys.

    place_at tells a key's place: None, or a pair (sayer, list of branches (hearer, word, key)).
    """
    keys = [start]
    numbers = {start: 0}
    places = []
    while len(places) < len(keys):
        place = place_at(keys[len(places)])
        places.append(None if place is None else numbered_place(place, keys, numbers, most))
    return tuple(places), keys


def numbered_place(place, keys, numbers, most):
    """A saying whose branches, rising, lead to numbers; keys that are new get the next ones."""
    sayer, branches = place
    told = []
    for hearer, word, key in sorted(branches, key=lambda branch: branch[:2]):
        if key not in numbers:
            if len(keys) == most:
                raise TooWide(f"more than {most} places")
            numbers[key] = len(keys)
            keys.append(key)
        told.append((hearer, word, numbers[key]))
    return sayer, tuple(told)


class Laying:
    """How a text is laid out: its board, and the keys of the board's places.

    The key of a saying is its number in the form, and the row of hands that its part's parameters stand for.
    """

    def __init__(self, text, most):
        self.form = form_of(text)
        self.weak = tuple(sorted(self.form.weak))
        places, self.order = lay_out(self.key_of(self.form.opening, {}), self.place_at, most)
        self.board = (tuple(self.form.hands), self.weak, places)
        self.check_falls()

    def stands_of(self, key):
        """The hands for which the parameters stand in a saying."""
        number, hands = key
        return dict(zip(self.form.sayings[number].parameters, hands))

    def key_of(self, go, stands):
        """The key of what comes then, where names stand for hands so."""
        if go is None:
            return END_KEY
        kind, number = go
        if kind == "call":
            _, name, hands, _ = self.form.calls[number]
            return self.form.parts[name][1], tuple([stands.get(hand, hand) for hand in hands])
        parameters = self.form.sayings[number].parameters
        return number, tuple([stands[name] for name in parameters])

    def place_at(self, key):
        """The place of a key, with keys in its branches; refuses what is wrong in it."""
        if key == END_KEY:
            return None
        saying = self.form.sayings[key[0]]
        stands = self.stands_of(key)
        sayer = stands.get(saying.sayer, saying.sayer)
        self.check_fault(saying, sayer)
        branches = []
        for hearer_at, name, word, go in saying.branches:
            hearer = stands.get(name, name)
            if word == FAULT and sayer not in self.weak:
                continue
            if hearer == sayer or (hearer, word) in [branch[:2] for branch in branches]:
                raise NoText(hearer_at)
            branches.append((hearer, word, self.key_of(go, stands)))
        return sayer, branches

    def check_fault(self, saying, sayer):
        """Refuses a saying of a weak sayer without a fault."""
        if sayer in self.weak and FAULT not in [branch[2] for branch in saying.branches]:
            raise NoText(saying.at)

    def check_falls(self):
        """Refuses the first place whose fault leads to a saying of the fallen hand, or to it."""
        places = self.board[2]
        for at, place in enumerate(places):
            falls = falls_of(place)
            if any([takes_part(places[behind], place[0]) for behind in places_from(places, falls)]):
                raise NoText(self.fault_at(at))

    def fault_at(self, at):
        """The number of the word of the fault of a place."""
        saying = self.form.sayings[self.order[at][0]]
        # The fault stands right behind its hearer.
        return [hearer_at + 1 for hearer_at, _, word, _ in saying.branches if word == FAULT][0]

    def point_of(self, key):
        """What points tells of a key's place."""
        if key == END_KEY:
            return None
        saying = self.form.sayings[key[0]]
        return saying.part, key[1], saying.at


def talk_text(board):
    """A text that is read as the board in order."""
    hands, weak, places = in_order(board)
    lines = ["hands(" + " ".join([written_hand(hand, weak) for hand in hands]) + ")"]
    lines.append("begin " + written_go(places, 0))
    for at, place in enumerate(places):
        if place is not None:
            lines.append("part " + written_go(places, at) + ": " + written_saying(places, place))
    return "\n".join(lines)


def written_hand(hand, weak):
    """A hand as it stands at the head of a text."""
    return "*" + hand if hand in weak else hand


def written_go(places, at):
    """An END, or the call of a place's part."""
    if places[at] is None:
        return "."
    return LETTERS[at // len(LETTERS)] + LETTERS[at % len(LETTERS)] + "()"


def written_saying(places, place):
    """A saying, with calls of parts behind its words."""
    sayer, branches = place
    told = [hearer + " " + word + " " + written_go(places, then) for hearer, word, then in branches]
    return sayer + " { " + " | ".join(told) + " }"
