"""Boards that are let, boards that are stuck by papers of one kind alone, or of all, and boards with wide ends."""

from tests.samples import BOTH, FALLING, PAIR, chain, crowd, ring, star

# Stuck by one kind alone, each by one hand or two.
ENDS_ALONE = (("ann", "bob", "cy"), (), (("ann", (("bob", "hi", 1), ("cy", "yes", 1))), None))
FAULT_ALONE = (
    ("ann", "bob", "cy"),
    ("ann",),
    (
        ("cy", (("ann", "no", 1), ("bob", "no", 2))),
        ("ann", (("bob", "!", 3), ("bob", "no", 3))),
        ("bob", (("ann", "hi", 3),)),
        None,
    ),
)
MIXED_ALONE = (
    ("ann", "bob", "cy"),
    (),
    (("ann", (("cy", "no", 1),)), ("bob", (("ann", "yes", 1), ("cy", "no", 0)))),
)
RACE_ALONE = (
    ("dora", "ed", "cy", "bob", "ann"),
    ("bob",),
    (("dora", (("bob", "no", 0), ("cy", "yes", 1))), ("cy", (("bob", "no", 2),)), None),
)
SAYS_ALONE = (
    ("dora", "ann", "cy", "ed", "bob"),
    ("ann", "bob", "dora"),
    (
        ("bob", (("ann", "!", 1), ("ann", "no", 2))),
        ("cy", (("dora", "yes", 2),)),
        ("cy", (("dora", "no", 3),)),
        None,
    ),
)
ALL_KINDS = (
    ("bob", "cy", "ann"),
    ("cy",),
    (
        ("cy", (("ann", "hi", 1), ("bob", "!", 2), ("bob", "no", 1))),
        ("ann", (("bob", "no", 3),)),
        None,
        None,
    ),
)
# cy says yes behind bob's fall alone, which may never come.
FALLS_OR_NEVER = (
    ("ann", "bob", "cy", "dora"),
    ("bob",),
    (("bob", (("ann", "!", 1), ("ann", "no", 0))), ("cy", (("dora", "yes", 2),)), None),
)
ALONE = {"ends": ENDS_ALONE, "fault": FAULT_ALONE, "mixed": MIXED_ALONE, "race": RACE_ALONE, "says": SAYS_ALONE}

# A hand that may fall with a word under way; who is behind it is told either way.
GONE = (
    ("ann", "bob", "cy"),
    ("ann",),
    (
        ("ann", (("bob", "!", 1), ("bob", "go", 2))),
        ("bob", (("cy", "gone", 3),)),
        ("bob", (("cy", "go", 3),)),
        None,
    ),
)
# Two hands, both weak, who go round till one says stop or falls.
ROUND = (
    ("bob", "ann"),
    ("ann", "bob"),
    (
        ("ann", (("bob", "!", 1), ("bob", "hi", 2), ("bob", "stop", 1))),
        None,
        ("bob", (("ann", "!", 1), ("ann", "ok", 0))),
    ),
)
# Two that talk ahead of each other's answers: both orders of what doesn't hang together are rows.
APART = (
    ("ann", "bob", "cy", "dora"),
    (),
    (("ann", (("bob", "hi", 1), ("bob", "no", 1))), ("cy", (("dora", "hi", 2), ("dora", "no", 2))), None),
)
# All six in a ring, for ever.
SIX = (
    ("ann", "bob", "cy", "dora", "ed", "flo"),
    (),
    tuple(
        (sayer, ((hearer, "hi", then),))
        for sayer, hearer, then in zip(
            ("ann", "bob", "cy", "dora", "ed", "flo"), ("bob", "cy", "dora", "ed", "flo", "ann"), (1, 2, 3, 4, 5, 0)
        )
    ),
)
LET = [PAIR, GONE, ROUND, APART, SIX, ring(2), ring(40), chain(1), chain(40), star(8), crowd(6)]
STUCK = [FALLING, BOTH, ALL_KINDS, FALLS_OR_NEVER, *ALONE.values()]


def renamed(board, names):
    """The board with other names of its hands and words, in which branches and weak hands rise."""
    hands, weak, places = board
    told = []
    for place in places:
        if place is None:
            told.append(None)
            continue
        branches = [(names.get(hearer, hearer), names.get(word, word), then) for hearer, word, then in place[1]]
        told.append((names.get(place[0], place[0]), tuple(sorted(branches))))
    weak = tuple(sorted(names.get(hand, hand) for hand in weak))
    return tuple(names.get(hand, hand) for hand in hands), weak, tuple(told)


# Words called as the hands are, and hands called as deeds are.
LIKE_HANDS = {"hi": "ann", "no": "bob", "yes": "cy", "go": "dora", "gone": "ed", "ok": "flo", "stop": "ed"}
LIKE_DEEDS = {"ann": "say", "bob": "hear", "cy": "fall", "hi": "say", "no": "hear", "yes": "fall"}


def two_rings(one, other):
    """A board of which cy's made end has one state, and as many as the least common multiple of both.

    ann tells bob, unseen by cy, on which of two rings the words to cy go round.
    """
    begin = ("ann", (("bob", "hi", 1), ("bob", "no", 1 + one)))
    first = tuple(("ann", (("cy", "tick", 1 + (at + 1) % one),)) for at in range(one))
    second = tuple(("ann", (("cy", "tick", 1 + one + (at + 1) % other),)) for at in range(other))
    return ("ann", "bob", "cy"), (), (begin,) + first + second


JUST_NARROW = two_rings(9, 11)
TOO_WIDE = two_rings(4, 25)
