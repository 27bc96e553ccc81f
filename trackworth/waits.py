"""Waits: which wagons a wagon may only follow, an order that keeps all waits, and rings of waits."""

from trackworth.dealings import made_dealing
from trackworth.errors import BadWagon
from trackworth.figures import within
from trackworth.rows import places


def waits_for(yard, row, dealing, x):
    """Return the wagons that wagon x waits for, ascending."""
    made_dealing(yard, row, dealing)
    if not within(x, 0, len(row) - 1):
        raise BadWagon(x)
    lanes = lanes_by_wagon(yard, row, dealing)
    a, b = lanes[x]
    ahead = row[:row.index(x)]
    return tuple([y for y in range(len(row)) if (lanes[y][0] == a and y in ahead) or (lanes[y][1] == b and y < x)])


def order(yard, row, dealing):
    """Return the middle order that always tells the least wagon that can be told; None if there is none."""
    made_dealing(yard, row, dealing)
    told = tellable(yard, row, dealing)
    if len(told) < len(row):
        return None
    return tuple(told)


def stuck(yard, row, dealing):
    """Return a ring of waits, its least wagon first; None if the dealing has none."""
    made_dealing(yard, row, dealing)
    told = tellable(yard, row, dealing)
    left = [wagon for wagon in row if wagon not in told]
    if not left:
        return None
    lanes = lanes_by_wagon(yard, row, dealing)
    walk = []
    wagon = min(left)
    while wagon not in walk:
        walk.append(wagon)
        wagon = waited_for(lanes, left, wagon)
    ring = walk[walk.index(wagon):]
    least = ring.index(min(ring))
    return tuple(ring[least:] + ring[:least])


def lanes_by_wagon(yard, row, dealing):
    """Return the pair of lanes of each wagon's track, wagon 0 first."""
    return [yard[2][dealing[place]] for place in places(row)]


def tellable(yard, row, dealing):
    """Return, in the order of telling, the wagons that can be told one by one, always the least one first."""
    lanes = lanes_by_wagon(yard, row, dealing)
    firsts = queues([(lanes[wagon][0], wagon) for wagon in row], yard[0])
    seconds = queues([(lanes[wagon][1], wagon) for wagon in range(len(row))], yard[1])
    told = []
    # A wagon waits for all that stand before it in the two queues of its lanes, so it can be told at their fronts.
    ready = fronts(lanes, firsts, seconds)
    while ready:
        wagon = min(ready)
        a, b = lanes[wagon]
        firsts[a].pop(0)
        seconds[b].pop(0)
        told.append(wagon)
        ready = fronts(lanes, firsts, seconds)
    return told


def queues(pairs, many):
    """Return for each of so many lanes the wagons that come with it, in their order."""
    found = [[] for _ in range(many)]
    for lane, wagon in pairs:
        found[lane].append(wagon)
    return found


def fronts(lanes, firsts, seconds):
    """Return the wagons that stand at the fronts of the queues of both of their lanes."""
    heads = [queue[0] for queue in firsts if queue]
    return [wagon for wagon in heads if seconds[lanes[wagon][1]][0] == wagon]


def waited_for(lanes, left, x):
    """Return the wagon, of those left in the order of the row, to which the walk for a ring goes from x."""
    a, b = lanes[x]
    ahead = [y for y in left[:left.index(x)] if lanes[y][0] == a]
    if ahead:
        return ahead[-1]
    # What is left waits for something that is left, so there is such a wagon.
    return min([y for y in left if y < x and lanes[y][1] == b])
