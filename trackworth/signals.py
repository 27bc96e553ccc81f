"""Signals: which moves a dealing lets through."""

from trackworth.dealings import made_dealing
from trackworth.engine import names_move
from trackworth.errors import BadStand
from trackworth.stands import is_stand


def greens(yard, row, dealing, stand):
    """Return the green moves on the stand."""
    made_dealing(yard, row, dealing)
    if not is_stand(yard, row, stand):
        raise BadStand(-1)
    return green_moves(yard, dict(zip(row, dealing)), stand)


def green_moves(yard, dealt, stand):
    """Return the green moves on a stand of this yard, by the track of each wagon."""
    tracks = yard[2]
    waiting, firsts, seconds, gone = stand
    found = [("in", tracks[dealt[wagon]][0]) for wagon in waiting[:1]]
    nexts = next_over(tracks, dealt, stand)
    # The tracks of a lane follow one another, so going by the lanes is going by the tracks.
    for a, lane in enumerate(firsts):
        for wagon in lane[:1]:
            t = dealt[wagon]
            if tracks[t][0] == a and nexts[tracks[t][1]] == wagon:
                found.append(("over", t))
    found.extend([("out", b) for b, lane in enumerate(seconds) if lane[:1] == (gone,)])
    return tuple(found)


def next_over(tracks, dealt, stand):
    """Return for the second lanes the least wagon that is to come over to each, where there is one."""
    waiting, firsts, _, _ = stand
    found = {}
    for lot in (waiting,) + firsts:
        for wagon in lot:
            b = tracks[dealt[wagon]][1]
            found[b] = min(wagon, found.get(b, wagon))
    return found


def shows_green(yard, dealt, stand, thing):
    """Tell whether the thing is a green move on a stand of this yard."""
    # To Python ("in", True) equals ("in", 1), so the form is looked at first.
    return names_move(yard, thing) and thing in green_moves(yard, dealt, stand)
