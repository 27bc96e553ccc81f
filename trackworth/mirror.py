"""Mirror dealings: the same wagons, from the second lanes back to the first ones."""

from trackworth.dealings import made_dealing
from trackworth.rows import places
from trackworth.yards import all_tracks, mirror_track


def mirror_dealing(yard, row, dealing):
    """Return the dealing of the mirrored yard and of the row of the wagons' places."""
    made_dealing(yard, row, dealing)
    turned = [mirror_track(yard, t) for t in all_tracks(yard)]
    return tuple([turned[dealing[place]] for place in places(row)])
