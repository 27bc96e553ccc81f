"""Rows of wagons, the places of their wagons, and joined rows."""

from trackworth.errors import BadRow, TooMany
from trackworth.figures import within

MOST_WAGONS = 400


def made_row(thing):
    """Return the row; raise BadRow if the thing is none."""
    if not isinstance(thing, tuple) or len(thing) > MOST_WAGONS:
        raise BadRow(-1)
    seen = [False] * len(thing)
    for at, wagon in enumerate(thing):
        if not within(wagon, 0, len(thing) - 1) or seen[wagon]:
            raise BadRow(at)
        seen[wagon] = True
    return tuple(list(thing))


def is_row(thing):
    """Tell whether the thing is a row."""
    try:
        made_row(thing)
    except BadRow:
        return False
    return True


def places(row):
    """Return the place of each wagon, wagon 0 first."""
    found = [0] * len(made_row(row))
    for place, wagon in enumerate(row):
        found[wagon] = place
    return tuple(found)


def joined(one, two):
    """Return the row one and behind it the row two, its wagons raised by the number of those of one."""
    made_row(one)
    made_row(two)
    many = len(one) + len(two)
    if many > MOST_WAGONS:
        raise TooMany(many)
    return tuple(list(one) + [wagon + len(one) for wagon in two])
