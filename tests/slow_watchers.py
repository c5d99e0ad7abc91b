"""What a watcher knows, worked out anew from all reports in the order in which they came (11.1, 11.2)."""

from tests.machines import walk


class SlowWatcher:
    def __init__(self, board, ends):
        self.hands, self.weak, _ = board
        self.ends = dict(ends)
        self.reports = []

    def of(self, hand):
        return tuple(event for one, event in self.reports if one == hand)

    def right(self, hand):
        """The right reports of a hand."""
        found = ()
        for event in self.of(hand):
            if event == ("fell",):
                return found + ((event,) if hand in self.weak else ())
            if walk((hand, self.ends[hand]), found + (event,)) is None:
                return found
            found += (event,)
        return found

    def is_closed(self, hand):
        return ("fell",) in self.of(hand) or len(self.right(hand)) < len(self.of(hand))

    def log(self):
        """All that is laid, report by report."""
        log = []
        for many in range(1, len(self.reports) + 1):
            ahead = SlowWatcher.__new__(SlowWatcher)
            ahead.hands, ahead.weak, ahead.ends, ahead.reports = self.hands, self.weak, self.ends, self.reports[:many]
            while ahead.lay_one(log):
                pass
        return tuple(log)

    def lay_one(self, log):
        for hand in self.hands:
            laid = [row for row in log if row[1] == hand]
            rest = self.right(hand)[len(laid):]
            if rest and self.can_lay(log, hand, rest[0]):
                log.append(("fall", hand) if rest[0] == ("fell",) else (rest[0][0], hand) + rest[0][1:])
                return True
        return False

    def can_lay(self, log, hand, event):
        if event[0] != "hear":
            return True
        said = [row[3] for row in log if row[:3] == ("say", event[1], hand)]
        heard = [row[3] for row in log if row[:3] == ("hear", hand, event[1])]
        left = said[len(heard):]
        return left[:1] == [event[2]] if event[2] != "!" else not left and ("fall", event[1]) in log

    def wrongs(self):
        return {hand: len(self.right(hand)) for hand in self.hands if len(self.right(hand)) < len(self.of(hand))}

    def waits(self):
        laid = {hand: len([row for row in self.log() if row[1] == hand]) for hand in self.hands}
        return {hand: laid[hand] for hand in self.hands if laid[hand] < len(self.right(hand))}

    def next_of(self, hand):
        if self.is_closed(hand):
            return ()
        return tuple(step[:3] for step in self.ends[hand][walk((hand, self.ends[hand]), self.of(hand))])
