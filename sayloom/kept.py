"""What a house keeps, and how it is taken back."""

from sayloom.halls import Hall
from sayloom.mixes import Mixing
from sayloom.stands import MOST_STANDS


class Keeping:
    """Editions with their made ends, a mix, the halls of all runs, which of them is on, and the runs that are over.

    A mark tells how much of all that there was at a time, so that what came behind can be taken back; standing has one
    for each deed, row of deeds, and drive that stands.
    """

    def __init__(self, boards, ends, room):
        self.boards = boards
        self.ends = ends
        self.room = room
        self.mixing = Mixing(boards, ends, room, MOST_STANDS)
        self.mix_now = self.mixing.first()
        self.halls = []
        self.on = None
        self.over = []
        self.standing = []

    def hall(self):
        """The hall of the run that is on, or None."""
        return None if self.on is None else self.halls[self.on]

    def lay(self, board, ends):
        """Lays a board, with its made ends, behind the editions."""
        self.set_boards(self.boards + [board], self.ends + [ends])

    def set_boards(self, boards, ends):
        """Has these editions; what was found out of mixes of others is forgotten."""
        self.boards = boards
        self.ends = ends
        self.mixing = Mixing(boards, ends, self.room, MOST_STANDS)

    def open_run(self):
        """Has a run of the mix on."""
        self.on = len(self.halls)
        ends = self.mixing.ends_by(self.mix_now)
        self.halls.append(Hall(ends, room=self.room, weak=self.mixing.weak_by(self.mix_now)))

    def close_run(self):
        """Keeps the run that is on as over; tells its log."""
        log = self.hall().log()
        self.over.append((self.mix_now, log))
        self.on = None
        return log

    def drop_run(self):
        """Has no run on any more."""
        self.on = None

    def mark(self):
        """How much there is."""
        many = 0 if self.on is None else len(self.hall())
        return len(self.boards), self.mix_now, len(self.halls), self.on, many, len(self.over)

    def take_back(self, mark):
        """Takes back all that came behind a mark."""
        boards, self.mix_now, halls, self.on, many, over = mark
        if boards < len(self.boards):
            self.set_boards(self.boards[:boards], self.ends[:boards])
        del self.halls[halls:]
        del self.over[over:]
        if self.on is not None:
            hall = self.hall()
            while len(hall) > many:
                hall.back()

    def copied(self, halls):
        """The same by itself, with copies of its halls."""
        other = Keeping(self.boards, self.ends, self.room)
        # It tells of these editions alone, and so the same to both.
        other.mixing = self.mixing
        other.mix_now = self.mix_now
        other.halls = halls
        other.on = self.on
        other.over = list(self.over)
        other.standing = list(self.standing)
        return other

    def twin(self):
        """The same by itself: nothing done to one is seen at the other."""
        return self.copied([hall.twin() for hall in self.halls])

    def for_drive(self):
        """The same by itself, as long as nothing but the run that is on goes on."""
        halls = list(self.halls)
        halls[self.on] = self.hall().twin()
        return self.copied(halls)
