"""Dealings: a track for each wagon of a row."""

from trackworth.errors import BadDealing, BadRow, BadYard
from trackworth.figures import within
from trackworth.rows import made_row
from trackworth.yards import made_yard


def made_dealing(yard, row, thing):
    """Return the dealing; raise BadDealing if the thing is none of this yard and row."""
    tracks = made_yard(yard)[2]
    made_row(row)
    if not isinstance(thing, tuple) or len(thing) != len(row):
        raise BadDealing(-1)
    for place, t in enumerate(thing):
        if not within(t, 0, len(tracks) - 1):
            raise BadDealing(place)
    return tuple(list(thing))


def is_dealing(yard, row, thing):
    """Tell whether the thing is a dealing of the yard and the row."""
    try:
        made_dealing(yard, row, thing)
    except (BadYard, BadRow, BadDealing):
        return False
    return True


def fallen(yard, row, dealing):
    """Return the first fall of the dealing, the greater wagon first; None if the dealing has no fall."""
    made_dealing(yard, row, dealing)
    lasts = {}
    for wagon, t in zip(row, dealing):
        # Ahead of the first fall the wagons of each track rise: if any is greater than this one, the last one is.
        if lasts.get(t, -1) > wagon:
            return (lasts[t], wagon)
        lasts[t] = wagon
    return None
