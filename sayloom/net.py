"""Nets: posts that do what ends do, and copies that may be lost, doubled, turned about."""

from sayloom.boards import FAULT, is_number
from sayloom.ends import BEGIN, state_by
from sayloom.errors import Full, LoomError, NoDeed, NoHand
from sayloom.halls import check_hall, has_form

# How many things deeds and copies have, by their words.
NET_FORMS = (("say", 4), ("again", 2), ("lose", 2), ("double", 2), ("carry", 2), ("fall", 2), ("mark", 3))
COPY_FORMS = (("word", 5), ("answer", 4))


def is_copy(thing):
    """Whether thing has the form of a copy, so that it can be looked for among copies."""
    if not has_form(thing, COPY_FORMS) or not is_number(thing[3]):
        return False
    return all([isinstance(part, str) for part in thing[:3] + thing[4:]])


class Post:
    """What a hand's post knows.

    heard has the numbers of the last words heard by their sayers, marked those of whom it took the mark, gone those
    of whom its end heard the fault. under is the copy of the word under way, or None; said_at tells where it stands
    among what was said, heard, who fell. cut tells of a fallen hand where its log is cut, None where it isn't.
    """

    def __init__(self):
        self.at = BEGIN
        self.said = 0
        self.heard = {}
        self.marked = {}
        self.gone = {}
        self.under = None
        self.said_at = None
        self.has_fallen = False
        self.cut = None

    def copied(self):
        """A post of its own that knows the same."""
        other = Post()
        other.at = self.at
        other.said = self.said
        other.heard = dict(self.heard)
        other.marked = dict(self.marked)
        other.gone = dict(self.gone)
        other.under = self.under
        other.said_at = self.said_at
        other.has_fallen = self.has_fallen
        other.cut = self.cut
        return other


class Net:
    """The posts of ends, the copies between them, and what was said, heard, and who fell."""

    def __init__(self, ends, *, weak=()):
        check_hall(ends, None, weak)
        self.ends = ends
        self.weak = weak
        self._states_of = {hand: states for hand, states in ends}
        self._posts = {hand: Post() for hand, _ in ends}
        self._copies = {}
        self._rows = []
        self._many = 0
        self._calls = 0
        self._refused = 0

    def do(self, deed):
        """Does a deed; tells the row that it adds to what was said, heard, who fell, or None."""
        self._calls += 1
        self._refused += 1
        row = self._do(deed)
        self._refused -= 1
        return row

    def all_of(self, deeds):
        """Does all of a row of deeds, or none; tells the row of what do tells of each."""
        self._calls += 1
        self._refused += 1
        if not isinstance(deeds, tuple):
            raise NoDeed("no row of deeds")
        posts = self._copied_posts()
        copies = {copy: self._copies[copy] for copy in self._copies}
        many, rows = self._many, len(self._rows)
        told = []
        try:
            for deed in deeds:
                told.append(self._do(deed))
        except (LoomError, NoHand, Full):
            self._posts = posts
            self._copies = copies
            self._many = many
            del self._rows[rows:]
            raise
        self._refused -= 1
        return tuple(told)

    def _copied_posts(self):
        return {hand: self._posts[hand].copied() for hand in self._posts}

    def _do(self, deed):
        """Does a deed, uncounted."""
        if not has_form(deed, NET_FORMS):
            raise NoDeed("no deed")
        if deed[0] in ("lose", "double", "carry"):
            row = self._do_to_copy(deed[0], deed[1])
        else:
            row = self._do_by_hand(deed)
        self._many += 1
        if row is not None:
            self._rows.append(row)
        return row

    def _do_to_copy(self, kind, copy):
        if not is_copy(copy) or copy not in self._copies:
            raise NoDeed("no such copy")
        if kind == "double":
            self._copies[copy] += 1
            return None
        self._copies[copy] -= 1
        if not self._copies[copy]:
            del self._copies[copy]
        if kind == "lose":
            return None
        return self._word_comes(copy) if copy[0] == "word" else self._answer_comes(copy)

    def _word_comes(self, copy):
        _, sayer, hand, number, word = copy
        post = self._posts[hand]
        if post.has_fallen:
            return None
        if number <= post.heard.get(sayer, 0):
            self._add_copy(("answer", hand, sayer, number))
            return None
        then = state_by(self._states_of[hand][post.at], ("hear", sayer, word))
        if then is None or sayer in post.gone:
            return None
        post.at = then
        post.heard[sayer] = number
        self._add_copy(("answer", hand, sayer, number))
        # The word with which the sayer fell is heard after all: nothing of what it did is left out any more.
        other = self._posts[sayer]
        if other.under == copy:
            other.cut = None
        return "hear", hand, sayer, word

    def _answer_comes(self, copy):
        _, _, sayer, number = copy
        post = self._posts[sayer]
        if not post.has_fallen and post.under is not None and post.under[3] == number:
            post.under = None
        return None

    def _add_copy(self, copy):
        self._copies[copy] = self._copies.get(copy, 0) + 1

    def _do_by_hand(self, deed):
        kind, hand = deed[:2]
        self._check_hand(hand)
        if kind in ("say", "mark"):
            self._check_other(hand, deed[2])
        post = self._posts[hand]
        if post.has_fallen:
            raise NoDeed("a fallen hand does nothing")
        if kind == "say":
            return self._do_say(deed, post)
        if kind == "mark":
            return self._do_mark(hand, deed[2], post)
        if kind == "fall":
            return self._do_fall(hand, post)
        if post.under is None:
            raise NoDeed("no word is under way")
        self._add_copy(post.under)
        return None

    def _check_hand(self, hand):
        if hand not in list(self._posts):
            raise NoHand(hand)

    def _check_other(self, hand, other):
        if other == hand:
            raise NoHand(other)
        self._check_hand(other)

    def _do_say(self, deed, post):
        _, hand, hearer, word = deed
        then = state_by(self._states_of[hand][post.at], ("say", hearer, word))
        if then is None:
            raise NoDeed("the end can't say that")
        if post.under is not None:
            raise Full(hand, post.under[2])
        post.at = then
        post.said += 1
        if hearer not in post.marked:
            post.under = ("word", hand, hearer, post.said, word)
            post.said_at = len(self._rows)
            self._add_copy(post.under)
        return deed

    def _do_mark(self, hand, other, post):
        if not self._posts[other].has_fallen:
            raise NoDeed("the other one hasn't fallen")
        post.marked[other] = True
        if post.under is not None and post.under[2] == other:
            post.under = None
        then = state_by(self._states_of[hand][post.at], ("hear", other, FAULT))
        if then is None or other in post.gone:
            return None
        post.at = then
        post.gone[other] = True
        return "hear", hand, other, FAULT

    def _do_fall(self, hand, post):
        if hand not in self.weak:
            raise NoDeed("the hand isn't weak")
        post.has_fallen = True
        if post.under is not None and self._posts[post.under[2]].heard.get(hand, 0) < post.under[3]:
            post.cut = post.said_at
        return "fall", hand

    def can_do(self):
        """The rising row of all deeds that can be done."""
        deeds = [(kind, copy) for copy in self._copies for kind in ("carry", "double", "lose")]
        fallen = self.fallen()
        for hand, post in self._posts.items():
            if post.has_fallen:
                continue
            deeds.extend([("mark", hand, other) for other in fallen])
            if hand in self.weak:
                deeds.append(("fall", hand))
            if post.under is not None:
                deeds.append(("again", hand))
                continue
            for kind, other, word, _ in self._states_of[hand][post.at]:
                if kind == "say":
                    deeds.append(("say", hand, other, word))
        return tuple(sorted(deeds))

    def copies(self):
        """The dict from the copies in the net, rising, to how many there are of each."""
        return {copy: self._copies[copy] for copy in sorted(self._copies)}

    def under_way(self):
        """The dict from the living hands that have a word under way to its copy."""
        found = {}
        for hand, post in self._posts.items():
            if post.under is not None and not post.has_fallen:
                found[hand] = post.under
        return found

    def state_of(self, hand):
        """The number of the state of a hand's end."""
        self._check_hand(hand)
        return self._posts[hand].at

    def is_done(self, hand):
        """Whether a hand's end is done where it is."""
        self._check_hand(hand)
        return not self._states_of[hand][self._posts[hand].at]

    def view_of(self, hand):
        """The row of all events of a hand, cut or not."""
        self._check_hand(hand)
        return tuple([(row[0],) + row[2:] for row in self._rows if row[1] == hand and row[0] != "fall"])

    def fallen(self):
        """The rising row of the hands that fell."""
        return tuple(sorted([hand for hand in self._posts if self._posts[hand].has_fallen]))

    def marks(self):
        """The rising row of the pairs (hand, other) of the marks taken."""
        return tuple(sorted([(hand, other) for hand in self._posts for other in self._posts[hand].marked]))

    def log(self):
        """The row of what was said, heard, and who fell, but for what is cut."""
        told = []
        for at, row in enumerate(self._rows):
            cut = self._posts[row[1]].cut
            if cut is None or at < cut:
                told.append(row)
            elif at == cut:
                told.append(("fall", row[1]))
        return tuple(told)

    def counts(self):
        """The pair of how many calls of do and all_of there were and how many of them were refused."""
        return self._calls, self._refused

    def twin(self):
        """A net of its own that did the same, and counts from 0."""
        other = Net(self.ends, weak=self.weak)
        other._posts = self._copied_posts()
        other._copies = {copy: self._copies[copy] for copy in self._copies}
        other._rows = list(self._rows)
        other._many = self._many
        return other

    def __eq__(self, other):
        if not isinstance(other, Net):
            return False
        if self.ends != other.ends or self.weak != other.weak or self.copies() != other.copies():
            return False
        if self.under_way() != other.under_way() or self.marks() != other.marks() or self.log() != other.log():
            return False
        return [self.view_of(hand) for hand, _ in self.ends] == [other.view_of(hand) for hand, _ in other.ends]

    def __len__(self):
        return len(range(self._many))

    def __repr__(self):
        return f"Net({len(self.ends)} hands, {self._many} deeds)"
