"""Editions of talks that several tests use."""

from sayloom.texts import read_talk


def asking(*words):
    """ann asks bob by one of these words, and he answers; the more words bob knows, the more ann may say."""
    branches = " | ".join(f"bob {word} bob {{ ann ok . }}" for word in words)
    return read_talk(f"hands(ann bob cy) begin ann {{ {branches} }}")


# bob goes over first, then ann; cy, who takes no part, whenever he likes.
ASKING_TWO = (asking("hi"), asking("hi", "hey"))
ASKING_FOUR = (asking("hi"), asking("hi", "hey"), asking("hey", "hi", "ho"), asking("hi", "hey", "ho", "hum"))
# Nobody can go over first: what bob says cy doesn't know, and the other way round.
COMING = (
    read_talk("hands(ann bob cy) begin ann { bob go bob { cy go . } }"),
    read_talk("hands(ann bob cy) begin ann { bob go bob { cy come . } }"),
)
# ann says one word more: it is left where bob doesn't know of it, or he waits for it.
MORE = (
    read_talk("hands(ann bob) begin ann { bob hi . }"),
    read_talk("hands(ann bob) begin ann { bob hi ann { bob bye . } }"),
)
# ann may fall in the second one, and bob knows of it there.
FALLING_TWO = (
    read_talk("hands(ann bob cy) begin ann { bob go bob { cy go . } }"),
    read_talk("hands(*ann bob cy) begin ann { bob go bob { cy go . } | bob ! bob { cy go . } }"),
)
# The same talk with another numbering, then one more word that cy is told.
SAME = (
    read_talk("hands(cy bob ann) begin cy { bob hi bob { ann hi . } }"),
    read_talk("hands(cy bob ann) begin cy { bob hi bob { ann hi . } }"),
    read_talk("hands(cy bob ann) begin cy { bob hi bob { ann hi . | ann no . } }"),
)
ALL = [ASKING_TWO, ASKING_FOUR, COMING, MORE, FALLING_TWO, SAME]
