"""What remains of a yard when lanes are shut or tracks are lost."""

from trackworth.errors import BadLane, BadNumber
from trackworth.figures import within
from trackworth.picks import need_pick
from trackworth.webs import ends, rank
from trackworth.yards import MOST_TRACKS, all_tracks, made_yard

MOST_LOST = 2


def shut(yard, lanes, pick):
    """Return the tracks of the pick that have neither end among the shut lanes."""
    made_yard(yard)
    need_lanes(yard, lanes)
    need_pick(yard, pick)
    found = []
    for t in pick:
        one, other = ends(yard, t)
        if one not in lanes and other not in lanes:
            found.append(t)
    return tuple(found)


def need_lanes(yard, lanes):
    """Raise BadLane if the argument is not an ascending tuple of lanes, numbered together."""
    if not isinstance(lanes, tuple):
        raise BadLane(-1)
    least = 0
    for lane in lanes:
        if not within(lane, least, yard[0] + yard[1] - 1):
            raise BadLane(lane)
        least = lane + 1


def fragile(yard, m, f):
    """Return the first pick of f tracks without which the yard is worth less than m; None if there is none."""
    tracks = all_tracks(yard)
    if not within(m, 0, MOST_TRACKS):
        raise BadNumber(m)
    if not within(f, 0, MOST_LOST):
        raise BadNumber(f)
    for lost in picks_of(tracks, f):
        if rank(yard, tuple([t for t in tracks if t not in lost])) < m:
            return lost
    return None


def picks_of(tracks, many):
    """Return all picks of so many of the tracks, ascending; all tracks alone if there are no more."""
    if len(tracks) <= many:
        return [tracks]
    if many == 0:
        return [()]
    later = tracks[1:]
    return [tracks[:1] + pick for pick in picks_of(later, many - 1)] + picks_of(later, many)
