"""Yards: first lanes, second lanes and the tracks between them."""

from trackworth.errors import BadTrack, BadYard
from trackworth.figures import within

MOST_LANES = 12
MOST_TRACKS = 60


def made_yard(thing):
    """Return the yard; raise BadYard if the thing is none."""
    if not isinstance(thing, tuple) or len(thing) != 3:
        raise BadYard(-1)
    firsts, seconds, tracks = thing
    if not within(firsts, 1, MOST_LANES):
        raise BadYard(-2)
    if not within(seconds, 1, MOST_LANES):
        raise BadYard(-3)
    if not isinstance(tracks, tuple) or len(tracks) > MOST_TRACKS:
        raise BadYard(-4)
    for at, pair in enumerate(tracks):
        if not joins_lanes(pair, firsts, seconds):
            raise BadYard(at)
        if at > 0 and pair <= tracks[at - 1]:
            raise BadYard(at)
    return (firsts, seconds, tuple([(a, b) for a, b in tracks]))


def joins_lanes(thing, firsts, seconds):
    """Tell whether the thing is a pair of a first lane and a second lane."""
    if not isinstance(thing, tuple) or len(thing) != 2:
        return False
    return within(thing[0], 0, firsts - 1) and within(thing[1], 0, seconds - 1)


def is_yard(thing):
    """Tell whether the thing is a yard."""
    try:
        made_yard(thing)
    except BadYard:
        return False
    return True


def all_tracks(yard):
    """Return the pick of all tracks of the yard."""
    tracks = made_yard(yard)[2]
    return tuple(range(len(tracks)))


def mirrored(yard):
    """Return the yard with its first lanes as second lanes and the reverse."""
    firsts, seconds, tracks = made_yard(yard)
    return (seconds, firsts, tuple(sorted([(b, a) for a, b in tracks])))


def mirror_track(yard, t):
    """Return the number that track t of the yard has in the mirrored yard."""
    tracks = made_yard(yard)[2]
    if not within(t, 0, len(tracks) - 1):
        raise BadTrack(t)
    a, b = tracks[t]
    return mirrored(yard)[2].index((b, a))
