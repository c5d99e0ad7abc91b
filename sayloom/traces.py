"""Ways back along what a search has come to."""


def trace(came, at):
    """The row of what was done from the start of a search to at.

    came tells None of the start, of all else the pair (where from, what was done).
    """
    told = []
    while came[at] is not None:
        at, done = came[at]
        told.append(done)
    return tuple(told[::-1])
