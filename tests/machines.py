"""Ends that several tests use, ends that dice give, and what they do, worked out slowly."""

# ann says hi till bob says no, or falls.
ASKS = (
    "ann",
    (
        (("say", "bob", "hi", 1),),
        (("hear", "bob", "!", 2), ("hear", "bob", "no", 2), ("hear", "bob", "yes", 0)),
        (),
    ),
)
# Does alike, by more states, one of which nobody comes to.
ASKS_LONG = (
    "ann",
    (
        (("say", "bob", "hi", 3),),
        (),
        (),
        (("hear", "bob", "!", 1), ("hear", "bob", "no", 2), ("hear", "bob", "yes", 4)),
        (("say", "bob", "hi", 5),),
        (("hear", "bob", "!", 2), ("hear", "bob", "no", 1), ("hear", "bob", "yes", 0)),
        (("say", "cy", "hi", 6),),
    ),
)
DONE = ("ann", ((),))
EVER = ("ann", ((("say", "bob", "hi", 0),),))


def lasso(many, back, hand="ann"):
    """An end of so many states, one behind another, the last one going back to one of them."""
    goes = list(range(1, many)) + [back]
    return hand, tuple((("say", "bob", "hi", then),) for then in goes)


def line(many, hand="ann"):
    """An end that says so many words, and is done."""
    return hand, tuple((("say", "bob", "hi", at + 1),) for at in range(many)) + ((),)


def fan(many):
    """An end of so many events in its one state."""
    words = sorted("abcdefghij"[at // 10] + "abcdefghij"[at - at // 10 * 10] for at in range(many))
    return "ann", (tuple(("hear", "bob", word, 0) for word in words),)


def thrown_end(dice, most=4, hand="ann", others=("bob", "cy"), words=("hi", "no")):
    """An end that dice give."""
    many = dice.randint(1, most)
    states = []
    for _ in range(many):
        table = {}
        for _ in range(dice.choice([0, 1, 1, 2, 3])):
            kind = dice.choice(["say", "hear"])
            word = dice.choice(words + ("!",)) if kind == "hear" else dice.choice(words)
            table[kind, dice.choice(others), word] = dice.randrange(many)
        states.append(tuple(sorted(event + (then,) for event, then in table.items())))
    return hand, tuple(states)


def like_end(dice, end):
    """The same end but for one step, perhaps."""
    hand, states = end
    states = list(states)
    at = dice.randrange(len(states))
    other = thrown_end(dice, 4, hand)[1][0]
    states[at] = tuple(step[:3] + (dice.randrange(len(states)),) for step in other)
    return hand, tuple(states)


def twofold(end):
    """An end of twice as many states that does alike."""
    hand, states = end
    many = len(states)
    one = [tuple(step[:3] + (step[3] + many,) for step in state) for state in states]
    return hand, tuple(one) + states


def step_from(end, state, event):
    """The state behind an event, or None."""
    return {step[:3]: step[3] for step in end[1][state]}.get(event)


def walk(end, view):
    """The state behind a row of events from the begin on, or None."""
    at = 0
    for event in view:
        at = step_from(end, at, event)
        if at is None:
            return None
    return at


def views_done(end, most):
    """The dict from all rows of at most so many events that an end does to the states behind them."""
    found = {(): 0}
    newest = {(): 0}
    for _ in range(most):
        newest = {row + (step[:3],): step[3] for row, at in newest.items() for step in end[1][at]}
        found.update(newest)
    return found
