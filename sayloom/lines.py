"""Lines that a desk is told, and what is written how in its answers."""

from sayloom.boards import FAULT, is_name
from sayloom.errors import NoDeed
from sayloom.halls import written

MOST_FIGURES = 20
FIGURES = "0123456789"
BETWEEN_DEEDS = " ; "
NONE = "none"
# Behind these stands a text of a talk, as it is.
WITH_TEXT = ("talk", "look", "next")
# What stands behind the words of all other lines.
LINES = {
    "change": ("name",),
    "begin": (),
    "say": ("name", "name", "name"),
    "hear": ("name", "name"),
    "fall": ("name",),
    "end": (),
    "drop": (),
    "back": (),
    "can": (),
    "way": ("name",),
    "view": ("name",),
    "cover": (),
    "bar": ("name",),
    "text": ("number",),
    "house": (),
}
# The words of the lines that may stand in an all.
IN_ALL = ("next", "change", "begin", "say", "hear", "fall", "end", "drop")


def refuse_line():
    """Refuses a line that is none."""
    raise NoDeed("no line")


def parsed(line):
    """The tuple of a line's word and of what stands behind it; refuses what is no line by its words."""
    if not isinstance(line, str):
        refuse_line()
    if not line.startswith("all "):
        return parsed_alone(line)
    rows = tuple([parsed_alone(part) for part in line[len("all "):].split(BETWEEN_DEEDS)])
    if not all([row[0] in IN_ALL for row in rows]):
        refuse_line()
    return "all", rows


def parsed_alone(line):
    """What parsed tells of a line that is no all."""
    word, blank, rest = line.partition(" ")
    if word in WITH_TEXT and blank:
        return word, rest
    words = line.split(" ")
    if word == "judge" and len(words) > 2:
        return word, number_of(words[1]), log_of(words[2:])
    if word not in LINES or len(words) != len(LINES[word]) + 1:
        refuse_line()
    told = [word]
    for kind, part in zip(LINES[word], words[1:]):
        if kind == "name" and not is_name(part):
            refuse_line()
        told.append(part if kind == "name" else number_of(part))
    return tuple(told)


def number_of(word):
    """The number that a word writes."""
    if not 1 <= len(word) <= MOST_FIGURES or not all([sign in FIGURES for sign in word]):
        refuse_line()
    if word[0] == "0" and word != "0":
        refuse_line()
    return int(word)


def log_of(words):
    """The log that words write."""
    if words == [NONE]:
        return ()
    return tuple([row_of_word(word) for word in words])


def row_of_word(word):
    """The row of a log that a word writes."""
    if word.endswith(FAULT) and is_name(word[:-1]):
        return "fall", word[:-1]
    ahead, _, told = word.partition(":")
    kind, sign = ("say", ">") if ">" in ahead else ("hear", "<")
    hand, _, other = ahead.partition(sign)
    is_told = is_name(told) or kind == "hear" and told == FAULT
    if not is_name(hand) or not is_name(other) or not is_told:
        refuse_line()
    return kind, hand, other, told


def written_deeds(deeds):
    """Deeds as a text."""
    return BETWEEN_DEEDS.join([" ".join(deed) for deed in deeds]) if deeds else NONE


def written_log(log):
    """A log as a text."""
    return " ".join([written(row) for row in log]) if log else NONE


def written_view(view):
    """A row of events as a text: each as the row of a log, but for the hand's name."""
    return " ".join([written((kind, "", other, word)) for kind, other, word in view]) if view else NONE


def written_sayings(row):
    """A row of a board as a text."""
    return " ".join([written(("say",) + saying) for saying in row]) if row else NONE


def written_fault(run):
    """How a run to a fault ends as a text."""
    fault = run[1]
    if fault[0] == "left":
        return " ".join(fault)
    return f"{fault[0]} {fault[1]} " + ",".join(fault[2])
