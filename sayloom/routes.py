"""Shortest ways of a hand over roads."""

from sayloom.traces import trace


def shortest_way(moves, flat, mine):
    """A shortest row of deeds but falls from a stand to the next deed of an end, or None where none leads there."""
    came = {flat: None}
    stands = [flat]
    done = 0
    while done < len(stands):
        flat = stands[done]
        near = near_ones(moves, flat, mine)
        for deed, who, come in moves.steps_from(flat):
            if who == mine:
                return trace(came, flat) + (deed,)
            if who in near and come not in came:
                came[come] = (flat, deed)
                stands.append(come)
        done += 1
    return None


def near_ones(moves, flat, mine):
    """The list of the ends on whose deeds the next one of an end hangs; a shortest way can begin with one of theirs.

    Whoever is among them waits for others among them alone: who says to it, where a road is empty, who hears it,
    where one is full. So deeds of others ahead of the first one of theirs can as well be done behind it.
    """
    near = [mine]
    done = 0
    while done < len(near):
        who = near[done]
        done += 1
        if moves.is_still(flat, who):
            continue
        for _, says, road, _, _, other in moves.table_at(who, flat[who]):
            waits = len(flat[road]) == moves.room if says else not flat[road]
            if waits and other not in near:
                near.append(other)
    return near
