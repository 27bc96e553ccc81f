"""Picks: ascending tuples of numbers of tracks of a yard."""

from trackworth.errors import BadPick
from trackworth.figures import within
from trackworth.yards import made_yard


def need_pick(yard, pick):
    """Raise what made_yard raises, then BadPick if the pick is none of the yard."""
    tracks = made_yard(yard)[2]
    if not isinstance(pick, tuple):
        raise BadPick(-1)
    least = 0
    for t in pick:
        if not within(t, least, len(tracks) - 1):
            raise BadPick(-1)
        least = t + 1
