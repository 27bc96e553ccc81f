"""Printing yards."""

from trackworth.names import made_named
from trackworth.tracktexts import track_text


def print_yard(named):
    """Return the text of the named yard: its lanes, and its tracks by their numbers."""
    made_named(named)
    firsts, seconds = named[1]
    parts = [" ".join(["first"] + list(firsts)), " ".join(["second"] + list(seconds))]
    for t, price in enumerate(named[2]):
        parts.append("track " + track_text(named, t) + price_text(price))
    return "; ".join(parts) + ";"


def price_text(price):
    """Return what is printed behind a track of this price."""
    return "" if price == 0 else " price " + str(price)
