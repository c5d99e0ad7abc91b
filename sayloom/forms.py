"""The words of a text of a talk, and the form that they keep to."""

from sayloom.boards import FAULT, FEWEST_HANDS, MOST_BRANCHES, MOST_HANDS, is_name
from sayloom.errors import NoText

MOST_PARTS = 40
MOST_PARAMETERS = 6
MOST_WITHIN = 12
BEGINS_PART = ""


def words_of(text):
    """The list of the words of a text."""
    words = []
    letters = ""
    for sign in text:
        if "a" <= sign <= "z":
            letters += sign
            continue
        if letters:
            words.append(letters)
            letters = ""
        if sign != " " and sign != "\n":
            words.append(sign)
    if letters:
        words.append(letters)
    return words


class Saying:
    """A saying as it stands in a text.

    part is the name of its part, or BEGINS_PART, parameters that part's; at is the number of the sayer's word;
    branches are the rows (number of the hearer's word, hearer, word, go) in the text's order, where the word's
    number is one more than the hearer's.
    """

    def __init__(self, part, parameters, at, sayer, branches):
        self.part = part
        self.parameters = parameters
        self.at = at
        self.sayer = sayer
        self.branches = branches


class Form:
    """What a text's words say; its reading refuses the first word that can't stand where it does.

    sayings are all that were read; a go is None (an end), ("saying", its number there) or ("call", its number
    among calls). calls are rows (number of its name's word, name, hands, number of its last word), in the text's
    order. parts are the pairs (parameters, number of its saying), by their names.
    """

    def __init__(self, words):
        self.words = words
        self.at = 0
        self.hands = []
        self.weak = []
        self.opening = None
        self.sayings = []
        self.calls = []
        self.parts = {}

    def peek(self, ahead=0):
        """The word that comes, or one behind it; the empty text behind the last one."""
        at = self.at + ahead
        return self.words[at] if at < len(self.words) else ""

    def take(self, word):
        """Goes on behind this very word."""
        if self.peek() != word:
            raise NoText(self.at)
        self.at += 1

    def take_name(self, taken=()):
        """Goes on behind a name that is unlike those taken; tells it."""
        name = self.peek()
        if not is_name(name) or name in taken:
            raise NoText(self.at)
        self.at += 1
        return name

    def take_hand(self, scope):
        """Goes on behind a name that stands for a hand; tells it."""
        name = self.peek()
        if name not in scope:
            raise NoText(self.at)
        self.at += 1
        return name

    def read(self):
        """Reads all words."""
        self.read_hands()
        self.take("begin")
        self.opening = self.read_go(BEGINS_PART, (), self.hands, 0)
        while self.at < len(self.words):
            if len(self.parts) == MOST_PARTS:
                raise NoText(self.at)
            self.read_part()

    def read_hands(self):
        self.take("hands")
        self.take("(")
        while len(self.hands) < FEWEST_HANDS or self.peek() != ")" and len(self.hands) < MOST_HANDS:
            is_weak = self.peek() == "*"
            if is_weak:
                self.take("*")
            hand = self.take_name(self.hands)
            self.hands.append(hand)
            if is_weak:
                self.weak.append(hand)
        self.take(")")

    def read_part(self):
        self.take("part")
        name = self.take_name(list(self.parts))
        self.take("(")
        parameters = []
        while self.peek() != ")" and len(parameters) < MOST_PARAMETERS:
            parameters.append(self.take_name(parameters))
        self.take(")")
        self.take(":")
        scope = parameters + self.hands
        self.parts[name] = (parameters, self.read_saying(name, parameters, scope, 0))

    def read_go(self, part, parameters, scope, within):
        """Reads what comes then, within so many sayings; tells the go."""
        if self.peek() == ".":
            self.take(".")
            return None
        if self.peek() in scope and self.peek(1) == "{" and within < MOST_WITHIN:
            return "saying", self.read_saying(part, parameters, scope, within)
        return "call", self.read_call(scope)

    def read_call(self, scope):
        """Reads a call; tells its number."""
        at = self.at
        name = self.take_name()
        self.take("(")
        hands = []
        while self.peek() != ")" and len(hands) < MOST_PARAMETERS:
            hands.append(self.take_hand(scope))
        self.calls.append((at, name, hands, self.at))
        self.take(")")
        return len(self.calls) - 1

    def read_saying(self, part, parameters, scope, within):
        """Reads a saying; tells its number."""
        at = self.at
        sayer = self.take_hand(scope)
        self.take("{")
        branches = []
        faults = 0
        while True:
            hearer_at = self.at
            hearer = self.take_hand(scope)
            word = self.read_word(faults)
            faults += int(word == FAULT)
            branches.append((hearer_at, hearer, word, self.read_go(part, parameters, scope, within + 1)))
            if self.peek() != "|" or len(branches) == MOST_BRANCHES:
                break
            self.take("|")
        if faults == len(branches):
            raise NoText(self.at)
        self.take("}")
        self.sayings.append(Saying(part, parameters, at, sayer, branches))
        return len(self.sayings) - 1

    def read_word(self, faults):
        """Reads a word, or a fault where there was none in the saying so far; tells it."""
        if self.peek() == FAULT and not faults:
            self.take(FAULT)
            return FAULT
        return self.take_name()

    def check_calls(self):
        """Refuses the first call of no part, or of another number of hands than its part has parameters."""
        for at, name, hands, last in self.calls:
            if name not in self.parts:
                raise NoText(at)
            if len(hands) != len(self.parts[name][0]):
                raise NoText(last)


def form_of(text):
    """The form of a text; refuses what is no text, or not in form."""
    if not isinstance(text, str):
        raise NoText(0)
    form = Form(words_of(text))
    form.read()
    form.check_calls()
    return form
