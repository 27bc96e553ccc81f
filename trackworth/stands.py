"""Stands: where all wagons of a row are."""

from trackworth.figures import is_number, within
from trackworth.rows import is_row, made_row
from trackworth.yards import is_yard, made_yard


def is_stand(yard, row, thing):
    """Judge whether the thing is a stand of the yard and the row."""
    if not is_yard(yard) or not is_row(row) or not isinstance(thing, tuple) or len(thing) != 4:
        return False
    waiting, firsts, seconds, gone = thing
    if not has_lanes(firsts, yard[0]) or not has_lanes(seconds, yard[1]):
        return False
    if not isinstance(waiting, tuple) or not within(gone, 0, len(row)):
        return False
    wagons = list(waiting) + list(range(gone))
    for lane in firsts + seconds:
        wagons.extend(lane)
    # Texts and tuples cannot be sorted among numbers, and True and False would pass for 1 and 0.
    if not all(is_number(wagon) for wagon in wagons):
        return False
    return sorted(wagons) == list(range(len(row))) and waiting == row[len(row) - len(waiting):]


def has_lanes(thing, many):
    """Tell whether the thing is a tuple of so many tuples."""
    return isinstance(thing, tuple) and len(thing) == many and all(isinstance(lane, tuple) for lane in thing)


def begun(yard, row):
    """Return the stand in which all wagons wait."""
    firsts, seconds, _ = made_yard(yard)
    return (made_row(row), ((),) * firsts, ((),) * seconds, 0)


def all_home(stand):
    """Tell whether no wagon waits and all lanes are empty."""
    waiting, firsts, seconds, _ = stand
    return not any(len(lot) > 0 for lot in (waiting,) + firsts + seconds)
