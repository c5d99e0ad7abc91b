"""Talks that are thrown, and what their texts tell, worked out slowly and in another way than the program's."""

import re

NAMES = ["ann", "bob", "cy", "x", "y", "hands", "begin", "part", "a", "abcdefgh"]
WORDS = ["hi", "no", "yes", "hands", "part", "ann", "x"]


def slow_words(text):
    return re.findall(r"[a-z]+|[^ \n]", text)


class Wrong(Exception):
    pass


def need(holds):
    if not holds:
        raise Wrong


def need_name(word, taken=()):
    need(re.fullmatch(r"[a-z]{1,8}", word) and word not in taken)


def first_wrong(words):
    """The number of the first word with which no text in form begins, or how many there are where some lack."""
    machine = in_form()
    may_end = next(machine)
    for number, word in enumerate(words):
        try:
            may_end = machine.send(word)
        except Wrong:
            return number
    return None if may_end else len(words)


def in_form():
    """Is sent words; yields whether the text may end ahead of each."""
    for literal in ("hands", "("):
        need((yield) == literal)
    hands = []
    while True:
        word = yield
        if word == ")":
            need(len(hands) >= 2)
            break
        need(len(hands) < 6)
        if word == "*":
            word = yield
        need_name(word, hands)
        hands.append(word)
    need((yield) == "begin")
    yield from form_of_go(hands, 12)
    parts = []
    while True:
        need((yield True) == "part" and len(parts) < 40)
        word = yield
        need_name(word, parts)
        parts.append(word)
        yield from form_of_part(hands)


def form_of_part(hands):
    need((yield) == "(")
    parameters = []
    while True:
        word = yield
        if word == ")":
            break
        need(len(parameters) < 6)
        need_name(word, parameters)
        parameters.append(word)
    need((yield) == ":")
    need((yield) in parameters + hands)
    need((yield) == "{")
    yield from form_of_branches(parameters + hands, 11)


def form_of_go(scope, left):
    word = yield
    if word == ".":
        return
    need_name(word)
    sign = yield
    if sign == "{":
        need(word in scope and left)
        yield from form_of_branches(scope, left - 1)
        return
    need(sign == "(")
    many = 0
    while True:
        word = yield
        if word == ")":
            return
        need(many < 6 and word in scope)
        many += 1


def form_of_branches(scope, left):
    """Behind the brace of a saying, within which so many more may stand."""
    told = []
    while True:
        need((yield) in scope)
        word = yield
        if word == "!":
            need("!" not in told)
        else:
            need_name(word)
        told.append(word)
        yield from form_of_go(scope, left)
        sign = yield
        if sign == "}":
            need(told != ["!"])
            return
        need(sign == "|" and len(told) < 8)


class Thrown:
    """A talk that dice give: its words, and what they mean."""

    def __init__(self, dice):
        self.dice = dice
        self.words = []
        self.hands, self.weak, self.parts = [], [], {}
        self.calls = []
        names = dice.sample(NAMES, dice.randint(2, 4))
        self.signatures = {name: dice.randint(0, 3) for name in dice.sample(NAMES, dice.randint(0, 3))}
        self.put("hands", "(")
        for name in names:
            if dice.random() < 0.3:
                self.put("*")
                self.weak.append(name)
            self.put(name)
            self.hands.append(name)
        self.put(")", "begin")
        self.begin = self.go("", [], 0)
        for name, many in self.signatures.items():
            parameters = dice.sample(NAMES, many)
            self.put("part", name, "(", *parameters, ")", ":")
            self.parts[name] = (parameters, self.saying(name, parameters, 1))

    def put(self, *words):
        self.words.extend(words)
        return len(self.words) - 1

    def hand(self, parameters):
        return self.dice.choice(parameters * 2 + self.hands)

    def go(self, part, parameters, within):
        roll = self.dice.random()
        if roll < 0.25 or within == 3 and not self.signatures:
            self.put(".")
            return None
        if roll < 0.6 and self.signatures or within == 3:
            name = self.dice.choice(list(self.signatures))
            hands = [self.hand(parameters) for _ in range(self.signatures[name])]
            if self.dice.random() < 0.01:
                hands.append(self.hand(parameters))
            if self.dice.random() < 0.01:
                name = "nobody"
            at = self.put(name)
            last = self.put("(", *hands, ")")
            self.calls.append((at, name, hands, last))
            return "call", name, hands
        return "saying", self.saying(part, parameters, within + 1)

    def saying(self, part, parameters, within):
        sayer = self.hand(parameters)
        said = {"part": part, "parameters": parameters, "at": self.put(sayer), "sayer": sayer, "branches": []}
        self.put("{")
        faults = [True] if self.dice.random() < 0.6 else []
        for is_fault in self.dice.sample(faults + [False] * self.dice.randint(1, 2), len(faults) + 1):
            if said["branches"]:
                self.put("|")
            self.branch(said, parameters, within, "!" if is_fault else self.dice.choice(WORDS))
        if [branch[2] for branch in said["branches"]] == ["!"]:
            self.put("|")
            self.branch(said, parameters, within, self.dice.choice(WORDS))
        self.put("}")
        return said

    def branch(self, said, parameters, within, word):
        hearer = self.dice.choice([hand for hand in parameters + self.hands if hand != said["sayer"]] or self.hands)
        at = self.put(hearer)
        self.put(word)
        said["branches"].append((at, hearer, word, self.go(said["part"], parameters, within)))

    def text(self):
        """The words with thrown blanks and line ends."""
        told = ""
        for word in self.words:
            needs_blank = told[-1:].isalpha() and word.isalpha()
            blank = self.dice.choice([" ", "\n", "  ", " \n "] if needs_blank else ["", "", " ", "\n", "\n\n "])
            told += blank + word
        return told + self.dice.choice(["", " ", "\n"])

    def meant(self, most):
        """("board", board, points) or ("NoText", number) or ("TooWide",)."""
        for at, name, hands, last in self.calls:
            if name not in self.parts:
                return "NoText", at
            if len(hands) != len(self.parts[name][0]):
                return "NoText", last
        return self.laid(most)

    def laid(self, most):
        nodes = [self.node(self.begin, {})]
        places = []
        for node in nodes:
            if node is None:
                places.append(None)
                continue
            fault, branches = self.looked_at(*node)
            if fault is not None:
                return "NoText", fault
            for _, _, then in branches:
                if then not in nodes:
                    nodes.append(then)
                if len(nodes) > most:
                    return ("TooWide",)
            told = tuple((hearer, word, nodes.index(then)) for hearer, word, then in branches)
            places.append((self.hand_of(node, node[0]["sayer"]), told))
        for at, place in enumerate(places):
            for _, word, then in place[1] if place else ():
                if word == "!" and self.comes_back(places, place[0], then):
                    return "NoText", [k + 1 for k, _, word, _ in nodes[at][0]["branches"] if word == "!"][0]
        points = tuple(node and (node[0]["part"], node[1], node[0]["at"]) for node in nodes)
        return "board", (tuple(self.hands), tuple(sorted(self.weak)), tuple(places)), points

    def node(self, go, stands):
        """What comes then: None, or a saying with the hands of its parameters."""
        if go is None:
            return None
        if go[0] == "call":
            return self.parts[go[1]][1], tuple(stands.get(hand, hand) for hand in go[2])
        return go[1], tuple(stands[name] for name in go[1]["parameters"])

    def hand_of(self, node, name):
        parameters = node[0]["parameters"]
        return node[1][parameters.index(name)] if name in parameters else name

    def looked_at(self, said, hands):
        node = (said, hands)
        stands = dict(zip(said["parameters"], hands))
        sayer = self.hand_of(node, said["sayer"])
        if sayer in self.weak and "!" not in [branch[2] for branch in said["branches"]]:
            return said["at"], None
        table = {}
        for at, name, word, go in said["branches"]:
            hearer = self.hand_of(node, name)
            if word == "!" and sayer not in self.weak:
                continue
            if hearer == sayer or (hearer, word) in table:
                return at, None
            table[hearer, word] = self.node(go, stands)
        return None, [key + (table[key],) for key in sorted(table)]

    def comes_back(self, places, hand, then):
        behind = [then]
        for at in behind:
            for _, _, place in places[at][1] if places[at] else ():
                if place not in behind:
                    behind.append(place)
        return any(places[at] and hand in [places[at][0]] + [branch[0] for branch in places[at][1]] for at in behind)
