"""Moves of wagons: into a first lane, over a track, and out of a second lane."""

from trackworth.errors import BadMove, BadStand, NoneThere, NotDue
from trackworth.figures import within
from trackworth.rows import made_row
from trackworth.stands import is_stand
from trackworth.yards import made_yard


def moved(yard, row, stand, move):
    """Return the stand after the move."""
    made_yard(yard)
    made_row(row)
    if not is_stand(yard, row, stand):
        raise BadStand(-1)
    return stand_after(yard, stand, move)


def stand_after(yard, stand, move):
    """Return the stand after the move, of a stand of this yard; raise an error if it cannot be made."""
    if not names_move(yard, move):
        raise BadMove(move)
    waiting, firsts, seconds, gone = stand
    kind, at = move
    lot = lot_before(yard, stand, move)
    if len(lot) == 0:
        raise NoneThere(move)
    wagon = lot[0]
    if kind == "in":
        return (waiting[1:], entered(firsts, at, wagon), seconds, gone)
    if kind == "over":
        a, b = yard[2][at]
        return (waiting, left(firsts, a), entered(seconds, b, wagon), gone)
    if wagon != gone:
        raise NotDue(wagon)
    return (waiting, firsts, left(seconds, at), gone + 1)


def names_move(yard, thing):
    """Tell whether the thing is a move with a lane or a track of the yard."""
    if not isinstance(thing, tuple) or len(thing) != 2:
        return False
    kind, at = thing
    if kind == "in":
        return within(at, 0, yard[0] - 1)
    if kind == "over":
        return within(at, 0, len(yard[2]) - 1)
    return kind == "out" and within(at, 0, yard[1] - 1)


def lot_before(yard, stand, move):
    """Return the wagons of which the move takes the first one."""
    kind, at = move
    if kind == "in":
        return stand[0]
    if kind == "over":
        return stand[1][yard[2][at][0]]
    return stand[2][at]


def entered(lanes, at, wagon):
    """Return the lanes with the wagon at the end of one of them."""
    return lanes[:at] + (lanes[at] + (wagon,),) + lanes[at + 1:]


def left(lanes, at):
    """Return the lanes without the front wagon of one of them."""
    return lanes[:at] + (lanes[at][1:],) + lanes[at + 1:]
