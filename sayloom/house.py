"""Houses: a talk kept over time, its editions, the mix that holds, its runs, and a book of what was called."""

from sayloom.boards import is_board, is_number_below
from sayloom.editions import MOST_EDITIONS, check_room
from sayloom.errors import Empty, Full, LoomError, NoBoard, NoDeed, NoEnds, NoHand, TooWide
from sayloom.halls import has_form
from sayloom.kept import Keeping
from sayloom.mixes import ends_of_let
from sayloom.moves import Moves
from sayloom.routes import shortest_way
from sayloom.stands import ROOM, stand_of
from sayloom.ways import goes_on

MOST_DEEDS = 200
# How many things a deed in a row has, by its word.
HOUSE_FORMS = (("publish", 2), ("change", 2), ("begin", 1), ("do", 2), ("end", 1), ("drop", 1))


class House:
    """A talk with a room: one to four editions, a mix that holds, at most one run that is on."""

    def __init__(self, board, *, room=ROOM):
        ends = ends_of_let(board)
        check_room(room)
        self.room = room
        self._kept = Keeping([board], [ends], room)
        self._busy = False
        self._book = []

    def publish(self, board):
        """Lays a board behind the editions; tells its number."""
        return self._alone(("publish", board))

    def change(self, hand):
        """Lets a hand go over to its next edition; tells the number of that."""
        return self._alone(("change", hand))

    def begin(self):
        """Begins a run; tells how many are over."""
        return self._alone(("begin",))

    def do(self, deed):
        """Does a deed in the run that is on; tells the row of the log."""
        return self._alone(("do", deed))

    def end(self):
        """Ends the run that is on; tells its log."""
        return self._alone(("end",))

    def drop(self):
        """Drops the run that is on."""
        return self._alone(("drop",))

    def all_of(self, deeds):
        """Does all of a row of deeds, or none; tells the row of what they tell."""
        self._book.append(("in", "all_of"))
        try:
            self._check_free()
            if not isinstance(deeds, tuple) or not all([has_form(deed, HOUSE_FORMS) for deed in deeds]):
                raise NoDeed("no row of deeds")
            return self._all_noted(deeds)
        finally:
            self._book.append(("out", "all_of"))

    def back(self):
        """Takes back the last deed, row of deeds, or drive that stands."""
        self._book.append(("in", "back"))
        try:
            self._check_free()
            if not self._kept.standing:
                raise NoDeed("nothing stands")
            self._kept.take_back(self._kept.standing.pop())
        finally:
            self._book.append(("out", "back"))

    def drive(self, choose, *, most=MOST_DEEDS):
        """Does deeds of the run that a chooser chooses; tells the row of the log's rows."""
        ahead = self._kept
        busy = self._busy
        told = None
        self._book.append(("in", "drive"))
        try:
            self._check_free()
            self._check_on()
            # Done by a copy: whatever the chooser raises, what was ahead of the drive is at hand then.
            self._kept = ahead.for_drive()
            self._kept.standing.append(ahead.mark())
            told = self._driven(choose, most)
            return told
        finally:
            self._busy = busy
            if told is None:
                self._kept = ahead
            self._book.append(("out", "drive"))

    def _driven(self, choose, most):
        rows = []
        while len(rows) < most:
            deeds = tuple([deed for deed in self._kept.hall().can_do() if deed[0] != "fall"])
            if not deeds:
                break
            self._busy = True
            number = choose(deeds)
            self._busy = False
            if number is None:
                break
            if not is_number_below(number, len(deeds)):
                raise NoDeed("no number of a deed")
            rows.append(self._noted(("do", deeds[number])))
        return tuple(rows)

    def _alone(self, deed):
        """Does a deed that can be taken back by itself."""
        mark = self._kept.mark()
        told = self._noted(deed)
        self._kept.standing.append(mark)
        return told

    def _all_noted(self, deeds):
        mark = self._kept.mark()
        told = []
        try:
            for deed in deeds:
                told.append(self._noted(deed))
        except (LoomError, NoHand, Empty, Full):
            self._kept.take_back(mark)
            raise
        self._kept.standing.append(mark)
        return tuple(told)

    def _noted(self, deed):
        """Does a deed that the book tells; what is refused changes nothing."""
        word = deed[0]
        self._book.append(("in", word))
        try:
            self._check_free()
            return self._done(deed)
        finally:
            self._book.append(("out", word))

    def _check_free(self):
        if self._busy:
            raise NoDeed("the house is busy")

    def _check_on(self):
        if self._kept.on is None:
            raise NoDeed("no run is on")

    def _check_hand(self, hand):
        if hand not in self._hands():
            raise NoHand(hand)

    def _hands(self):
        return self._kept.boards[0][0]

    def _done(self, deed):
        """Does a deed by its word."""
        word = deed[0]
        if word == "publish":
            return self._published(deed[1])
        if word == "change":
            return self._changed(deed[1])
        if word == "begin":
            return self._begun()
        self._check_on()
        if word == "do":
            return self._kept.hall().do(deed[1])
        if word == "end":
            return self._run_ended()
        self._kept.drop_run()
        return None

    def _published(self, board):
        if not is_board(board) or board[0] != self._hands():
            raise NoBoard("no board with these hands")
        ends = ends_of_let(board)
        if len(self._kept.boards) == MOST_EDITIONS:
            raise NoDeed("no more editions")
        self._kept.lay(board, ends)
        return len(self._kept.boards) - 1

    def _changed(self, hand):
        self._check_hand(hand)
        if self._kept.on is not None:
            raise NoDeed("a run is on")
        kept = self._kept
        mix = kept.mixing.next_by(kept.mix_now, hand)
        if mix is None:
            raise NoDeed("no next edition")
        if kept.mixing.run_by(mix) is not None:
            raise NoEnds("the mix doesn't meet")
        kept.mix_now = mix
        return mix[self._hands().index(hand)]

    def _begun(self):
        if self._kept.on is not None:
            raise NoDeed("a run is on")
        self._kept.open_run()
        return len(self._kept.over)

    def _run_ended(self):
        hall = self._kept.hall()
        if [hand for hand in self._hands() if goes_on(hall, hand)]:
            raise NoDeed("some hand goes on")
        return self._kept.close_run()

    def editions(self):
        """The row of the boards."""
        return tuple(self._kept.boards)

    def mix(self):
        """The row of the numbers of the editions by which the hands go."""
        return self._kept.mix_now

    def is_on(self):
        """Whether a run is on."""
        return self._kept.on is not None

    def is_busy(self):
        """Whether a drive asks its chooser."""
        return self._busy

    def can_do(self):
        """The rising row of all deeds that can be done in the run that is on."""
        return self._kept.hall().can_do() if self.is_on() else ()

    def can_change(self):
        """The rising row of the hands that can go over to their next edition."""
        if self.is_on():
            return ()
        return tuple([hand for hand in sorted(self._hands()) if self._can_go_over(hand)])

    def _can_go_over(self, hand):
        mix = self._kept.mixing.next_by(self._kept.mix_now, hand)
        if mix is None:
            return False
        try:
            return self._kept.mixing.run_by(mix) is None
        except TooWide:
            return False

    def bar(self, hand):
        """A run to a fault of the mix with a hand's next edition; None where that meets, or there is none."""
        self._check_hand(hand)
        mix = self._kept.mixing.next_by(self._kept.mix_now, hand)
        return None if mix is None else self._kept.mixing.run_by(mix)

    def way_on(self, hand):
        """A shortest way of a hand; None of one that is done or has fallen, or where no run is on."""
        self._check_hand(hand)
        hall = self._kept.hall()
        if hall is None or not goes_on(hall, hand):
            return None
        moves = Moves(hall.ends, hall.room, hall.weak)
        return shortest_way(moves, moves.flat_of(stand_of(hall)), self._hands().index(hand))

    def log(self):
        """The log of the run that is on."""
        return self._kept.hall().log() if self.is_on() else ()

    def views(self):
        """The dict from all hands to their views in the run that is on."""
        return self._kept.hall().views() if self.is_on() else {}

    def runs(self):
        """The row of pairs (mix, log) of the runs that are over."""
        return tuple(self._kept.over)

    def book(self):
        """The row of what the calls laid."""
        return tuple(self._book)

    def twin(self):
        """A house by itself, alike so far in all but the book."""
        other = House(self._kept.boards[0], room=self.room)
        other._kept = self._kept.twin()
        return other

    def __eq__(self, other):
        if not isinstance(other, House):
            return False
        if self.room != other.room or self.editions() != other.editions() or self.mix() != other.mix():
            return False
        return self.runs() == other.runs() and self._kept.hall() == other._kept.hall()

    def __len__(self):
        return len(self._kept.over)

    def __str__(self):
        return ", ".join(self._parts())

    def _parts(self):
        """The list of what the house as a text tells."""
        mix = ",".join([str(number) for number in self._kept.mix_now])
        is_on = "on" if self.is_on() else "off"
        return [f"{len(self._hands())} hands", f"{len(self._kept.boards)} editions", f"mix {mix}", is_on]

    def __repr__(self):
        return f"House({len(self._hands())} hands, {len(self._kept.boards)} editions)"
