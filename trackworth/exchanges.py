"""Exchanges between picks without a ring, and how many such picks there are."""

from trackworth.errors import BadNumber, NotForest, TooMany, Unlike
from trackworth.figures import within
from trackworth.picks import need_pick
from trackworth.rings import ring, serves
from trackworth.webs import alone, ends, linked
from trackworth.yards import MOST_TRACKS, made_yard

MOST_COUNTED = 14


def swaps(yard, one, two):
    """Return the exchanges, pairs (out, in), that lead from the first pick to the second one without a ring."""
    need_pick(yard, one)
    need_pick(yard, two)
    for at, pick in enumerate((one, two)):
        if not serves(yard, pick):
            raise NotForest(at)
    if len(one) != len(two):
        raise Unlike(0)
    standing = list(one)
    found = []
    for t in two:
        if t not in one:
            out = leaving(yard, standing, two, t)
            standing.remove(out)
            standing.append(t)
            found.append((out, t))
    return tuple(found)


def leaving(yard, standing, kept, t):
    """Return the least track that can make place for track t, of those that are not kept."""
    # What stands has no ring, so with track t there is at most one.
    closed = ring(yard, tuple(sorted(standing + [t])))
    others = standing if closed is None else closed
    return min([u for u in others if u not in kept])


def count_forests(yard, m):
    """Return how many picks of m tracks have no ring."""
    tracks = made_yard(yard)[2]
    if not within(m, 0, MOST_TRACKS):
        raise BadNumber(m)
    if len(tracks) > MOST_COUNTED:
        raise TooMany(len(tracks))
    return count_from(yard, 0, m, alone(yard))


def count_from(yard, t, m, roots):
    """Return in how many ways m tracks, of those from track t on, close no ring with what is linked already."""
    if m == 0:
        return 1
    if t + m > len(yard[2]):
        return 0
    found = count_from(yard, t + 1, m, roots)
    one, other = ends(yard, t)
    if roots[one] != roots[other]:
        found = found + count_from(yard, t + 1, m - 1, linked(roots, one, other))
    return found
