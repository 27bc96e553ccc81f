"""Reading yards."""

from trackworth.errors import BadNumber, NoName, TooMany, Twice
from trackworth.prices import HIGHEST_PRICE
from trackworth.reader import Reader, new_names
from trackworth.tracktexts import lane_from
from trackworth.yards import MOST_LANES, MOST_TRACKS


def read_yard(text):
    """Return the named yard that the text tells."""
    reader = Reader(text)
    firsts = tuple(new_names(reader, "first", 1, MOST_LANES, ()))
    seconds = tuple(new_names(reader, "second", 1, MOST_LANES, firsts))
    priced = {}
    while not reader.ended():
        reader.take("track")
        pair = new_pair(reader, firsts, seconds, priced)
        priced[pair] = price_from(reader)
        reader.take(";")
    tracks = sorted(priced)
    yard = (len(firsts), len(seconds), tuple(tracks))
    return (yard, (firsts, seconds), tuple([priced[pair] for pair in tracks]))


def new_pair(reader, firsts, seconds, told):
    """Take the names of the lanes of a further track, and return the pair of these lanes."""
    name = reader.name()
    if len(told) == MOST_TRACKS:
        raise TooMany(reader.last())
    if name not in firsts:
        raise NoName(reader.last())
    reader.take("-")
    pair = (firsts.index(name), lane_from(reader, seconds))
    if pair in told:
        raise Twice(reader.last())
    return pair


def price_from(reader):
    """Take the price of a track where one stands, and return it."""
    if reader.ahead() != "price":
        return 0
    reader.take("price")
    price = reader.number()
    if price > HIGHEST_PRICE:
        raise BadNumber(reader.last())
    return price
