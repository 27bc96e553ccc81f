"""Webs: which lanes hang together by the tracks of a pick."""

from trackworth.picks import need_pick


def pieces(yard, pick):
    """Return the pieces: the lots of lanes that hang together by the pick."""
    need_pick(yard, pick)
    roots = alone(yard)
    lanes = []
    for t in pick:
        one, other = ends(yard, t)
        lanes.extend([one, other])
        roots = linked(roots, one, other)
    lots = {}
    # A root is the least lane of its lot, so lots begun in the order of the lanes are in the order of the pieces.
    for lane in sorted(set(lanes)):
        lots.setdefault(roots[lane], []).append(lane)
    return tuple([tuple(lot) for lot in lots.values()])


def rank(yard, pick):
    """Return the number of lanes in the pieces, less the number of pieces."""
    lots = pieces(yard, pick)
    return sum([len(lot) for lot in lots]) - len(lots)


def ends(yard, t):
    """Return the two lanes of track t, by the numbers that lanes of both sorts have together."""
    a, b = yard[2][t]
    return (a, yard[0] + b)


def alone(yard):
    """Return the root of each lane as long as no tracks are taken: itself."""
    return list(range(yard[0] + yard[1]))


def linked(roots, one, other):
    """Return the roots of all lanes after two lanes were linked; a root is the least lane of its lot."""
    low = min(roots[one], roots[other])
    high = max(roots[one], roots[other])
    return [low if root == high else root for root in roots]
