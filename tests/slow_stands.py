"""Stands of ends, tables and runs to a fault, looked at slowly, as the document tells (9.1 to 9.3)."""

from tests.slow_looks import is_slow_name, is_slow_number


def is_slow_stand(ends, room, weak, thing):
    if type(thing) is not tuple or len(thing) != 2 or type(thing[0]) is not tuple or type(thing[1]) is not tuple:
        return False
    states, roads = thing
    hands = [hand for hand, _ in ends]
    if len(states) != len(hands):
        return False
    for (hand, row), state in zip(ends, states):
        if not is_slow_number(state, len(row)) and not (type(state) is int and state == -1 and hand in weak):
            return False
    fallen = [hand for hand, state in zip(hands, states) if state == -1]
    pairs = []
    for road in roads:
        if type(road) is not tuple or len(road) != 3 or type(road[2]) is not tuple or not road[2]:
            return False
        sayer, hearer, words = road
        if type(sayer) is not str or type(hearer) is not str or sayer not in hands or hearer not in hands:
            return False
        if sayer == hearer or hearer in fallen:
            return False
        said = words[:-1] if sayer in fallen else words
        if sayer in fallen and not (type(words[-1]) is str and words[-1] == "!"):
            return False
        if len(said) > room or not all(map(is_slow_name, said)):
            return False
        pairs.append((sayer, hearer))
    return pairs == sorted(set(pairs))


def slow_steps(ends, room, weak, stand):
    """The dict from all deeds that can be done in a stand to the stands behind them."""
    states, roads = stand
    hands = [hand for hand, _ in ends]
    fallen = [hand for hand, state in zip(hands, states) if state == -1]
    road = {(sayer, hearer): words for sayer, hearer, words in roads}
    found = {}

    def told(at, state, changed):
        new = {**road, **changed}
        return states[:at] + (state,) + states[at + 1:], tuple(
            (*pair, new[pair]) for pair in sorted(new) if new[pair]
        )

    for at, (hand, rows) in enumerate(ends):
        if hand in fallen:
            continue
        for kind, other, word, then in rows[states[at]]:
            if kind == "say" and len(road.get((hand, other), ())) < room:
                words = () if other in fallen else road.get((hand, other), ()) + (word,)
                found["say", hand, other, word] = told(at, then, {(hand, other): words})
            if kind == "hear" and road.get((other, hand), ())[:1] == (word,):
                found["hear", hand, other] = told(at, then, {(other, hand): road[other, hand][1:]})
        if hand in weak:
            changed = {}
            for other in hands:
                if other != hand:
                    changed[other, hand] = ()
                    if other not in fallen:
                        changed[hand, other] = road.get((hand, other), ()) + ("!",)
            found["fall", hand] = told(at, -1, changed)
    return found


def slow_begin(ends):
    return (0,) * len(ends), ()


def slow_walk(ends, room, weak):
    """The dict from all stands that come to what can be done there."""
    found = {slow_begin(ends): None}
    left = list(found)
    while left:
        stand = left.pop(0)
        found[stand] = slow_steps(ends, room, weak, stand)
        for then in found[stand].values():
            if then not in found:
                found[then] = None
                left.append(then)
    return found


def is_still(ends, stand, at):
    return stand[0][at] == -1 or not ends[at][1][stand[0][at]]


def slow_left(ends, stand):
    """The pairs of living hands whose roads have something, where all are still."""
    if not all(is_still(ends, stand, at) for at in range(len(ends))):
        return []
    lives = [hand for (hand, _), state in zip(ends, stand[0]) if state != -1]
    return [road[:2] for road in stand[1] if road[0] in lives and road[1] in lives]


def slow_numbers(ends, walk):
    """The dict from stands to the least numbers, None where none can be."""
    found = {stand: [0 if is_still(ends, stand, at) else None for at in range(len(ends))] for stand in walk}
    for many in range(1, len(walk) + 2):
        for stand, steps in walk.items():
            for at, (hand, _) in enumerate(ends):
                if found[stand][at] is not None:
                    continue
                for deed, then in steps.items():
                    mine = deed[1] == hand
                    if deed[0] != "fall" and (mine and many == 1 or not mine and found[then][at] == many - 1 > 0):
                        found[stand][at] = many
    return {stand: tuple(numbers) for stand, numbers in found.items()}


def is_slow_sound(ends, room, weak):
    walk = slow_walk(ends, room, weak)
    whole = [None not in numbers for numbers in slow_numbers(ends, walk).values()]
    return all(whole) and not any(slow_left(ends, stand) for stand in walk)


def is_slow_table(ends, room, weak, thing):
    if type(thing) is not tuple:
        return False
    for row in thing:
        if type(row) is not tuple or len(row) != 2 or not is_slow_stand(ends, room, weak, row[0]):
            return False
        if type(row[1]) is not tuple or len(row[1]) != len(ends):
            return False
        if not all(type(number) is int and number >= 0 for number in row[1]):
            return False
    table = dict(thing)
    if [row[0] for row in thing] != sorted(table) or slow_begin(ends) not in table:
        return False
    for stand, numbers in table.items():
        steps = slow_steps(ends, room, weak, stand)
        if not set(steps.values()) <= set(table) or slow_left(ends, stand):
            return False
        for at, (hand, _) in enumerate(ends):
            if is_still(ends, stand, at) != (numbers[at] == 0):
                return False
            goes = [deed for deed, then in steps.items()
                    if deed[0] != "fall" and (deed[1] == hand or table[then][at] < numbers[at])]
            if numbers[at] and not goes:
                return False
    return True


def is_slow_run_to_fault(ends, room, weak, thing):
    if type(thing) is not tuple or len(thing) != 2 or type(thing[0]) is not tuple or type(thing[1]) is not tuple:
        return False
    stand = slow_begin(ends)
    for deed in thing[0]:
        steps = slow_steps(ends, room, weak, stand)
        if type(deed) is not tuple or not all(type(part) is str for part in deed) or deed not in steps:
            return False
        stand = steps[deed]
    fault = thing[1]
    if len(fault) == 3 and fault[0] == "left":
        return fault[1:] in slow_left(ends, stand)
    if len(fault) != 4 or fault[0] != "waits":
        return False
    _, hand, others, stands = fault
    hands = [name for name, _ in ends]
    if hand not in hands or type(stands) is not tuple or type(others) is not tuple:
        return False
    at = hands.index(hand)
    if not all(is_slow_stand(ends, room, weak, told) for told in stands):
        return False
    if stand not in stands or list(stands) != sorted(set(stands)):
        return False
    for told in stands:
        steps = {deed: then for deed, then in slow_steps(ends, room, weak, told).items() if deed[0] != "fall"}
        if is_still(ends, told, at) or hand in [deed[1] for deed in steps] or not set(steps.values()) <= set(stands):
            return False
        if others != tuple(sorted({step[1] for step in ends[at][1][told[0][at]]})):
            return False
    return True
