"""Reasons why a dealing does not work."""

from trackworth.dealings import fallen
from trackworth.waits import stuck


def refuted(yard, row, dealing):
    """Return a reason why the dealing does not work: a fall, or a ring of waits; None if it works."""
    pair = fallen(yard, row, dealing)
    if pair is not None:
        return ("fall", pair)
    wagons = stuck(yard, row, dealing)
    if wagons is not None:
        return ("ring", wagons)
    return None
