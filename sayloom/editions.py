"""Editions of a talk: which of their mixes meet, and in which order hands can go over from one to the next."""

from sayloom.boards import is_board, is_rising, is_tuple_of
from sayloom.errors import NoBoard, NoPlace, NoRoom
from sayloom.halls import is_room
from sayloom.mixes import Mixing, ends_of_let
from sayloom.stands import MOST_STANDS, ROOM, shows_walked, walked
from sayloom.tables import is_run_to_fault, is_table
from sayloom.traces import trace

FEWEST_EDITIONS = 2
MOST_EDITIONS = 4
ORDER = "order"
BARRED = "barred"


def are_editions(thing):
    """Whether thing is a row of boards of the same hands, let or not."""
    if not is_tuple_of(thing, FEWEST_EDITIONS, MOST_EDITIONS) or not all([is_board(board) for board in thing]):
        return False
    return all([board[0] == thing[0][0] for board in thing])


def mixing_of(editions, room=ROOM, most=MOST_STANDS):
    """Editions with their made ends; refuses what is no editions, too wide, or stuck."""
    if not are_editions(editions):
        raise NoBoard("no editions")
    return Mixing(editions, [ends_of_let(board) for board in editions], room, most)


def check_mix(mixing, mix):
    """Refuses what is no mix."""
    if not mixing.is_mix(mix):
        raise NoPlace(mix)


def check_room(room):
    """Refuses what is no room of so many words."""
    if not is_room(room):
        raise NoRoom("no room of roads")


def mix_ends(editions, mix):
    """The ends of a mix."""
    mixing = mixing_of(editions)
    check_mix(mixing, mix)
    return mixing.ends_by(mix)


def mix_weak(editions, mix):
    """The rising row of the weak hands of a mix."""
    mixing = mixing_of(editions)
    check_mix(mixing, mix)
    return mixing.weak_by(mix)


def meets(editions, mix, *, room=ROOM, most=MOST_STANDS):
    """What walked tells of a mix."""
    mixing = mixing_of(editions)
    check_mix(mixing, mix)
    return walked(mixing.ends_by(mix), room=room, weak=mixing.weak_by(mix), most=most)


def shows_meets(editions, mix, thing, *, room=ROOM):
    """What shows_walked tells of a mix and a thing."""
    mixing = mixing_of(editions)
    check_mix(mixing, mix)
    return shows_walked(mixing.ends_by(mix), thing, room=room, weak=mixing.weak_by(mix))


def come_to(editions, *, room=ROOM, most=MOST_STANDS):
    """The rising row of all mixes that are come to."""
    mixing = mixing_of(editions, room, most)
    check_room(room)
    return tuple(sorted(mixes_from(mixing)))


def mixes_from(mixing):
    """The dict from all mixes that are come to to where they come from: (mix, hand), or None of the first."""
    came = {mixing.first(): None}
    # That one meets; but it may be too wide.
    mixing.run_by(mixing.first())
    mixes = list(came)
    done = 0
    while done < len(mixes):
        for hand in mixing.hands:
            come = mixing.next_by(mixes[done], hand)
            if come is not None and come not in came and mixing.run_by(come) is None:
                came[come] = (mixes[done], hand)
                mixes.append(come)
        done += 1
    return came


def order_of(editions, *, room=ROOM, most=MOST_STANDS):
    """An order in which hands go over, with its tables, or bars."""
    mixing = mixing_of(editions, room, most)
    check_room(room)
    came = mixes_from(mixing)
    if mixing.last() in came:
        hands = trace(came, mixing.last())
        return ORDER, (hands, tuple([mixing.table_by(mix) for mix in mixes_along(mixing, hands)]))
    mixes = tuple(sorted(came))
    return BARRED, (mixes, tuple([step + (mixing.run_by(come),) for step, come in steps_out(mixing, mixes)]))


def mixes_along(mixing, hands):
    """The list of the mixes to which hands lead that go over, the first one, too; it ends with None where one can't."""
    mixes = [mixing.first()]
    for hand in hands:
        if mixes[-1] is not None:
            mixes.append(mixing.next_by(mixes[-1], hand))
    return mixes


def steps_out(mixing, mixes):
    """The list of pairs ((mix, hand), mix that comes then), rising, of all steps that lead out of rising mixes."""
    among = set(mixes)
    steps = []
    for mix in mixes:
        for hand in sorted(mixing.hands):
            come = mixing.next_by(mix, hand)
            if come is not None and come not in among:
                steps.append(((mix, hand), come))
    return steps


def shows_order(editions, thing, *, room=ROOM):
    """Whether thing is an order or bars of editions."""
    mixing = mixing_of(editions, room)
    check_room(room)
    if not is_tuple_of(thing, 2, 2) or not is_tuple_of(thing[1], 2, 2):
        return False
    one, two = thing[1]
    if not isinstance(one, tuple) or not isinstance(two, tuple):
        return False
    if thing[0] == ORDER:
        return is_order(mixing, one, two)
    return thing[0] == BARRED and are_bars(mixing, one, two)


def is_order(mixing, hands, tables):
    """Whether hands go over, in their order, to the last mix, along mixes of which tables tell that they meet."""
    if not all([hand in mixing.hands for hand in hands]):
        return False
    mixes = mixes_along(mixing, hands)
    if mixes[-1] != mixing.last() or len(tables) != len(mixes):
        return False
    return all([is_table(mixing.moves_by(mix), table) for mix, table in zip(mixes, tables)])


def are_bars(mixing, mixes, bars):
    """Whether all steps that lead out of mixes, the first among them and not the last, are barred by runs."""
    if not all([mixing.is_mix(mix) for mix in mixes]) or not is_rising(mixes):
        return False
    if mixing.first() not in mixes or mixing.last() in mixes:
        return False
    steps = steps_out(mixing, mixes)
    if not all([is_tuple_of(bar, 3, 3) and mixing.is_mix(bar[0]) for bar in bars]):
        return False
    if [bar[:2] for bar in bars] != [step for step, _ in steps]:
        return False
    return all([is_run_to_fault(mixing.moves_by(come), bar[2]) for bar, (_, come) in zip(bars, steps)])
