"""Runs: moves by which a dealing brings the wagons out."""

from trackworth.dealings import made_dealing
from trackworth.engine import stand_after
from trackworth.errors import BadPicks, Stuck
from trackworth.figures import is_number
from trackworth.signals import green_moves
from trackworth.stands import begun
from trackworth.waits import order, stuck


def told_moves(yard, row, dealing):
    """Return the moves of the middle order: all wagons in, then each over, and out as soon as it can."""
    middle = order(yard, row, dealing)
    if middle is None:
        raise Stuck(stuck(yard, row, dealing))
    tracks = yard[2]
    dealt = dict(zip(row, dealing))
    moves = [("in", tracks[dealt[wagon]][0]) for wagon in row]
    over = [False] * len(row)
    gone = 0
    for wagon in middle:
        moves.append(("over", dealt[wagon]))
        over[wagon] = True
        # The lesser wagons of its lane went over ahead of it and have left, so the due wagon stands in front.
        while gone < len(row) and over[gone]:
            moves.append(("out", tracks[dealt[gone]][1]))
            gone += 1
    return tuple(moves)


def run(yard, row, dealing, picks):
    """Return the green moves that the picks choose, until none is left, and the last stand."""
    made_dealing(yard, row, dealing)
    need_choices(picks)
    dealt = dict(zip(row, dealing))
    moves = []
    stand = begun(yard, row)
    found = green_moves(yard, dealt, stand)
    while found:
        step = len(moves)
        at = picks[step] if step < len(picks) else 0
        move = found[at % len(found)]
        moves.append(move)
        stand = stand_after(yard, stand, move)
        found = green_moves(yard, dealt, stand)
    return (tuple(moves), stand)


def need_choices(picks):
    """Raise BadPicks if the argument is not a tuple of numbers from 0 on."""
    if not isinstance(picks, tuple):
        raise BadPicks(-1)
    for at, choice in enumerate(picks):
        if not is_number(choice) or choice < 0:
            raise BadPicks(at)
