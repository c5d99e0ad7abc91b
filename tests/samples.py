"""Boards, wrong things and small oracles that several tests use."""

import copy
import random

PAIR = (("ann", "bob"), (), (("ann", (("bob", "hi", 1),)), None))

# The board of the document's example (2.1), in order.
ASKING = (
    ("ann", "bob", "cy"),
    ("cy",),
    (
        ("ann", (("bob", "want", 1), ("cy", "note", 2))),
        ("bob", (("ann", "no", 3), ("ann", "yes", 2))),
        None,
        ("bob", (("ann", "want", 4), ("cy", "note", 2))),
        ("ann", (("bob", "no", 0), ("bob", "yes", 2))),
    ),
)

# ann may fall ahead of each of her sayings; cy and bob go on alone then.
FALLING = (
    ("ann", "bob", "cy"),
    ("ann",),
    (
        ("ann", (("bob", "!", 1), ("bob", "go", 2))),
        ("bob", (("cy", "alone", 4),)),
        ("bob", (("ann", "ok", 3), ("cy", "note", 0))),
        ("ann", (("bob", "!", 1), ("cy", "bye", 4))),
        None,
    ),
)

# Both fall: whoever is last says nothing more.
BOTH = (
    ("ann", "bob", "cy"),
    ("ann", "bob"),
    (
        ("ann", (("bob", "!", 1), ("bob", "hi", 2))),
        ("bob", (("cy", "!", 3), ("cy", "left", 3))),
        ("bob", (("ann", "!", 4), ("ann", "hi", 0), ("cy", "stop", 3))),
        None,
        ("ann", (("cy", "!", 3), ("cy", "left", 3))),
    ),
)


def ring(many):
    """A board of two hands who say in turn, for ever, with so many places."""
    hands = ("ann", "bob")
    places = tuple(
        (hands[at & 1], ((hands[1 - (at & 1)], "hi", (at + 1) % many),)) for at in range(many)
    )
    return hands, (), places


def ring_row(many):
    """So many sayings along a ring with an even number of places."""
    sayings = (("ann", "bob", "hi"), ("bob", "ann", "hi"))
    return tuple(sayings[at & 1] for at in range(many))


def chain(many):
    """A board of so many places, one behind another, the last one an end."""
    places = tuple(("ann", (("bob", "hi", at + 1),)) for at in range(many - 1))
    return ("ann", "bob"), (), places + (None,)


def star(many):
    """A board whose begin has so many branches, all to an end."""
    words = "abcdefghijkl"[:many]
    branches = tuple(("bob", word, 1) for word in words)
    return ("ann", "bob"), (), (("ann", branches), None)


def crowd(many):
    """A board of so many hands."""
    return tuple(["ann", "bob", "cy", "dora", "ed", "flo", "gus"][:many]), (), PAIR[2]


BOARDS = [
    PAIR, ASKING, FALLING, BOTH, ring(2), ring(40), chain(1), chain(2), chain(40), star(1), star(8),
    crowd(2), crowd(6),
]


def nested(kind, depth):
    """An empty thing of a kind, as deep in such things."""
    thing = kind()
    for _ in range(depth):
        thing = kind([thing])
    return thing


def anything():
    """Things of all kinds that may be handed in, none a board, a row, a hand or a place of a board here."""
    return [
        None, True, False, -1, 40, 41, 10 ** 40 - 1, 1 - 10 ** 40, "", "!", "Ann", "ann ", "eve", "1", "annabella",
        [], {}, [()], [None], {"ann": "bob"}, {0: 0}, [0], (0,), (True,), (None,), ("ann",), ((),), ([],), ({},),
        (("ann", "bob"),), (("ann", "bob", "hi", 1),), (["ann", "bob", "hi"],), ("ann", "bob", "hi"),
        (("ann", ["bob"], "hi"),), ((("ann", "bob", "hi"),),), [("ann", "bob", "hi")], "ann" * 200,
        nested(tuple, 10), nested(list, 10), {"a": {"b": [({"c": (1, None, True)},)]}}, tuple(range(400)),
        list(PAIR), (list(PAIR[0]), PAIR[1], PAIR[2]), (PAIR[0], list(PAIR[1]), PAIR[2]),
        (PAIR[0], PAIR[1], list(PAIR[2])), PAIR[:2], PAIR + ((),),
    ]


def with_one_otherwise(thing, other):
    """The things that come where one part, at whatever depth, is the other one."""
    yield other
    if isinstance(thing, tuple):
        for at, part in enumerate(thing):
            for broken in with_one_otherwise(part, other):
                yield thing[:at] + (broken,) + thing[at + 1:]


def with_one_listed(thing):
    """The things that come where one tuple, at whatever depth, is a list."""
    if isinstance(thing, tuple):
        yield list(thing)
        for at, part in enumerate(thing):
            for broken in with_one_listed(part):
                yield thing[:at] + (broken,) + thing[at + 1:]


def same(one, other):
    """Whether both are alike by their kinds, too, as True == 1 is not enough."""
    if isinstance(one, (tuple, list)):
        return type(one) is type(other) and len(one) == len(other) and all(map(same, one, other))
    if isinstance(one, dict):
        return type(other) is dict and same(list(one.items()), list(other.items()))
    return type(one) is type(other) and one == other


class Unchanged:
    """Fails the test where one of the things isn't as it was, or an elder copy of it."""

    def __init__(self, test, *things):
        self.test, self.things, self.copies = test, things, copy.deepcopy(things)

    def __enter__(self):
        return self

    def __exit__(self, kind, value, trace):
        if kind is None:
            self.test.assertTrue(same(self.things, self.copies))


def all_rows(board, most):
    """All rows of a board of at most so many sayings, with their places."""
    found = [((), 0)]
    for row, at in found:
        if len(row) < most and board[2][at] is not None:
            sayer, branches = board[2][at]
            found.extend((row + ((sayer, hearer, word),), then) for hearer, word, then in branches)
    return found


def open_branches(board, at, without, faults):
    """The branches (sayer, hearer, word, place) along which reach may go, as 1.5 and the interface tell."""
    if board[2][at] is None:
        return []
    sayer, branches = board[2][at]
    return [
        (sayer, hearer, word, then) for hearer, word, then in branches
        if without not in (sayer, hearer) and (faults or word != "!")
    ]


def closure(board, without=None, faults=True):
    """For each pair of places the least number of branches between them, None where none leads there."""
    many = len(board[2])
    far = [[0 if one == two else None for two in range(many)] for one in range(many)]
    for _ in range(many):
        for one in range(many):
            for *_, then in open_branches(board, one, without, faults):
                for two in range(many):
                    if far[then][two] is not None and (far[one][two] is None or far[then][two] + 1 < far[one][two]):
                        far[one][two] = far[then][two] + 1
    return far


def made_up_boards(many, seed=7):
    """So many boards that a made-up way of throwing dice gives, the same ones each time."""
    dice = random.Random(seed)
    boards = []
    while len(boards) < many:
        board = _thrown(dice)
        if _holds(board):
            boards.append(board)
    return boards


def _thrown(dice):
    hands = tuple(["ann", "bob", "cy"][:dice.randint(2, 3)])
    weak = tuple(hand for hand in hands if dice.random() < 0.4)
    many = dice.randint(2, 7)
    places = []
    for _ in range(many):
        if dice.random() < 0.3:
            places.append(None)
            continue
        sayer = dice.choice(hands)
        others = [hand for hand in hands if hand != sayer]
        table = {(dice.choice(others), dice.choice(["hi", "no", "yes"])): dice.randrange(many) for _ in range(3)}
        if sayer in weak:
            table[dice.choice(others), "!"] = dice.randrange(many)
        places.append((sayer, tuple(sorted(key + (then,) for key, then in table.items()))))
    return hands, weak, tuple(places)


def _holds(board):
    """Whether a thrown board keeps to what its throwing leaves open: all come to, the fallen are silent."""
    far = closure(board)
    if None in far[0]:
        return False
    for place in board[2]:
        for _, word, then in place[1] if place else ():
            behind = [at for at in range(len(board[2])) if far[then][at] is not None]
            heard = [hand for at in behind if board[2][at] for hand, _, _ in board[2][at][1]]
            said = [board[2][at][0] for at in behind if board[2][at]]
            if word == "!" and place[0] in heard + said:
                return False
    return True
