"""Stands of ends over roads: all walked, by which it is seen whether the ends are sound."""

from sayloom.boards import are_weak
from sayloom.errors import NoDeed, NoEnds, NoHand, NoPlace, NoRoom
from sayloom.halls import are_ends, is_room
from sayloom.moves import FALLEN, Moves
from sayloom.tables import FAULTY, SOUND, Walk, is_run_to_fault, is_table, many_of

ROOM = 1
MOST_STANDS = 1000


def moves_of(ends, room, weak):
    """The moves of ends; refuses what is no ends, no room, or no weak hands of these."""
    if not are_ends(ends):
        raise NoEnds("no ends of a hall")
    if not is_room(room):
        raise NoRoom("no room of roads")
    if not are_weak(weak, [hand for hand, _ in ends]):
        raise NoHand(weak)
    return Moves(ends, room, weak)


def flat_stand(moves, stand):
    """The flat stand; refuses what is none."""
    flat = moves.flat_of(stand)
    if flat is None:
        raise NoPlace(stand)
    return flat


def begin_stand(ends):
    """The stand from which all begins."""
    moves = moves_of(ends, ROOM, ())
    return moves.told(moves.begin())


def stand_of(hall):
    """The stand of a hall."""
    fallen = hall.fallen()
    states = [FALLEN if hand in fallen else hall.state_of(hand) for hand, _ in hall.ends]
    roads = [pair + (words,) for pair, words in hall.under_way().items()]
    return tuple(states), tuple(roads)


def is_stand(ends, thing, *, room=ROOM, weak=()):
    """Whether thing is a stand of ends, whether it comes or not."""
    return moves_of(ends, room, weak).flat_of(thing) is not None


def deeds_at(ends, stand, *, room=ROOM, weak=()):
    """The rising row of all deeds that can be done in a stand."""
    moves = moves_of(ends, room, weak)
    return tuple(sorted([deed for deed, _, _ in moves.all_from(flat_stand(moves, stand))]))


def stand_behind(ends, stand, deed, *, room=ROOM, weak=()):
    """The stand behind a deed."""
    moves = moves_of(ends, room, weak)
    flat = moves.stand_after(flat_stand(moves, stand), deed)
    if flat is None:
        raise NoDeed("that can't be done there")
    return moves.told(flat)


def awaited(ends, stand, *, hand, room=ROOM, weak=()):
    """The rising row of the hands that a hand's state names, of a fallen one none."""
    moves = moves_of(ends, room, weak)
    flat = flat_stand(moves, stand)
    if hand not in moves.hands:
        raise NoHand(hand)
    return moves.named_in(moves.hands.index(hand), flat)


def walked(ends, *, room=ROOM, weak=(), most=MOST_STANDS):
    """A table of all stands that come, or a run to a fault."""
    walk = Walk(moves_of(ends, room, weak), most)
    run = walk.run_to_fault()
    return (SOUND, walk.table()) if run is None else (FAULTY, run)


def many_stands(ends, *, room=ROOM, weak=(), most=MOST_STANDS):
    """How many stands come."""
    return many_of(moves_of(ends, room, weak), most)


def shows_walked(ends, thing, *, room=ROOM, weak=()):
    """Whether thing is a pair such as walked tells, of whatever table or run."""
    moves = moves_of(ends, room, weak)
    if not isinstance(thing, tuple) or len(thing) != 2:
        return False
    if thing[0] == SOUND:
        return is_table(moves, thing[1])
    return thing[0] == FAULTY and is_run_to_fault(moves, thing[1])


def shows_run(ends, thing, *, room=ROOM, weak=()):
    """Whether thing is a run to a fault."""
    return is_run_to_fault(moves_of(ends, room, weak), thing)
