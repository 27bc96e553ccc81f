"""Reading and printing dealings and moves."""

from trackworth.dealings import made_dealing
from trackworth.errors import BadText, NoName, Twice
from trackworth.names import made_named, need_train
from trackworth.reader import Reader
from trackworth.tracktexts import lane_from, track_from, track_text


def read_dealing(named, row, wagons, text):
    """Return the dealing that the text tells."""
    made_named(named)
    need_train(row, wagons)
    return dealing_from(Reader(text), named, row, wagons)


def dealing_from(reader, named, row, wagons):
    """Take a dealing of all wagons, up to the end of the text, and return it."""
    dealt = {}
    while not reader.ended():
        if len(dealt) > 0:
            reader.take(";")
        wagon = reader.name()
        if wagon not in wagons:
            raise NoName(reader.last())
        if wagon in dealt:
            raise Twice(reader.last())
        reader.take("by")
        dealt[wagon] = track_from(reader, named)
    if len(dealt) < len(row):
        raise BadText(reader.place())
    return tuple([dealt[wagons[wagon]] for wagon in row])


def print_dealing(named, row, wagons, dealing):
    """Return the text of the dealing, its wagons in the order in which they come."""
    made_named(named)
    need_train(row, wagons)
    made_dealing(named[0], row, dealing)
    return "; ".join([wagons[wagon] + " by " + track_text(named, t) for wagon, t in zip(row, dealing)])


def read_moves(named, text):
    """Return the moves that the text tells."""
    made_named(named)
    reader = Reader(text)
    moves = []
    while not reader.ended():
        if len(moves) > 0:
            reader.take(";")
        moves.append(move_from(reader, named))
    return tuple(moves)


def move_from(reader, named):
    """Take a move, and return it."""
    firsts, seconds = named[1]
    kind = reader.one_of(("in", "over", "out"))
    if kind == "in":
        return (kind, lane_from(reader, firsts))
    if kind == "over":
        return (kind, track_from(reader, named))
    return (kind, lane_from(reader, seconds))


def print_moves(named, moves):
    """Return the text of the moves."""
    made_named(named)
    return "; ".join([move_text(named, move) for move in moves])


def move_text(named, move):
    """Return the text of a move."""
    firsts, seconds = named[1]
    kind, at = move
    if kind == "in":
        return "in " + firsts[at]
    if kind == "over":
        return "over " + track_text(named, at)
    return "out " + seconds[at]
