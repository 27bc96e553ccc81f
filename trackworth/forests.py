"""Forests: as many tracks of a pick as there can be without a ring."""

from trackworth.picks import need_pick
from trackworth.webs import alone, ends, linked, rank
from trackworth.yards import all_tracks


def forest(yard, pick):
    """Return the tracks of the pick that, one after the other, close no ring with those taken before."""
    need_pick(yard, pick)
    return tuple(ringless(yard, pick))


def ringless(yard, tracks):
    """Return, in the order in which the tracks are told, those that close no ring with those taken before."""
    taken = []
    roots = alone(yard)
    for t in tracks:
        one, other = ends(yard, t)
        # A track closes a ring exactly if its two lanes hang together already.
        if roots[one] != roots[other]:
            taken.append(t)
            roots = linked(roots, one, other)
    return taken


def worth(yard):
    """Return the rank of all tracks of the yard."""
    return rank(yard, all_tracks(yard))
