"""Rings of tracks: the shortest one of a pick, and a judge of rings."""

from trackworth.errors import BadPick, BadYard
from trackworth.figures import within
from trackworth.picks import need_pick
from trackworth.webs import ends


def ring(yard, pick):
    """Return the least tuple that writes a shortest ring of the pick; None if the pick has no ring."""
    need_pick(yard, pick)
    doors = doors_of(yard, pick)
    best = None
    # The tracks ascend, so of equally long rings the first one found begins with the least track.
    for t in pick:
        found = ring_from(yard, doors, t)
        if found is not None and (best is None or len(found) < len(best)):
            best = found
    return best


def serves(yard, pick):
    """Tell whether the pick has no ring."""
    return ring(yard, pick) is None


def ring_right(yard, pick, thing):
    """Judge whether the thing is a ring of tracks of the pick, written in any way."""
    try:
        need_pick(yard, pick)
    except (BadYard, BadPick):
        return False
    if not isinstance(thing, tuple) or len(thing) < 4 or len(thing) % 2 != 0:
        return False
    for t in thing:
        if not within(t, 0, len(yard[2]) - 1) or t not in pick:
            return False
    return turns_round([yard[2][t] for t in thing])


def turns_round(pairs):
    """Tell whether the pairs of lanes, two or more by two, form a ring."""
    half = len(pairs) // 2
    comings = pairs[0::2]
    goings = pairs[1::2]
    afters = pairs[2::2] + pairs[:1]
    if [a for a, _ in comings] != [a for a, _ in goings]:
        return False
    if [b for _, b in goings] != [b for _, b in afters]:
        return False
    # If no lane comes back, then no track does either: tracks that meet in one lane differ in the other one.
    return len({a for a, _ in goings}) == half and len({b for _, b in goings}) == half


def doors_of(yard, pick):
    """Return for each lane with tracks of the pick these tracks, ascending, each with the lane behind it."""
    doors = {}
    for t in pick:
        one, other = ends(yard, t)
        doors.setdefault(one, []).append((t, other))
        doors.setdefault(other, []).append((t, one))
    return doors


def ring_from(yard, doors, t):
    """Return the least of the shortest rings that are written from track t on; None if t is in no ring."""
    start, goal = ends(yard, t)
    steps = steps_to(doors, goal, t)
    if start not in steps:
        return None
    way = [t]
    lane = start
    # A shortest way meets no lane twice, so that its tracks and t are a ring.
    while lane != goal:
        nearer = [door for door in doors[lane] if door[0] != t and steps[door[1]] < steps[lane]]
        taken, lane = min(nearer)
        way.append(taken)
    return tuple(way)


def steps_to(doors, goal, shut):
    """Return how many tracks lead at least from each lane to the goal, if one track is shut."""
    steps = {goal: 0}
    lanes = [goal]
    while lanes:
        found = []
        for lane in lanes:
            for t, other in doors[lane]:
                if t != shut and other not in steps:
                    steps[other] = steps[lane] + 1
                    found.append(other)
        lanes = found
    return steps
