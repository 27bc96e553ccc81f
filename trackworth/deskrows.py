"""The rows that a desk carries out, each with its answer."""

from trackworth.badrows import bad_row
from trackworth.errors import TooMany
from trackworth.movetexts import dealing_from, print_dealing, print_moves
from trackworth.moves import told_moves
from trackworth.plans import plan
from trackworth.prices import cheapest_of
from trackworth.reader import Reader
from trackworth.readtrain import train_from
from trackworth.refuter import refuted
from trackworth.rings import ring
from trackworth.tracktexts import track_from, tracks_text
from trackworth.webs import rank
from trackworth.words import is_name


def answer_hand(desk, reader):
    """Shut or free a track for a hand, or let it undo or redo."""
    hand = reader.name()
    word = reader.one_of(("shut", "free", "undo", "redo"))
    if word == "shut" or word == "free":
        t = track_from(reader, desk.named)
        reader.end()
        if word == "shut":
            desk.shut(hand, t)
        else:
            desk.free(hand, t)
        return "ok"
    reader.end()
    if word == "undo":
        desk.undo(hand)
    else:
        desk.redo(hand)
    return "ok"


def answer_put(desk, reader):
    """Keep a train."""
    word = reader.name()
    row, wagons = train_from(reader)
    reader.end()
    desk.put(word, row, wagons)
    return "ok"


def answer_drop(desk, reader):
    """Drop a train."""
    word = reader.name()
    # There has to be such a train before the row is read on.
    desk.train(word)
    reader.end()
    desk.drop(word)
    return "ok"


def answer_worth(desk, reader):
    """Tell what the open tracks are worth."""
    reader.end()
    return str(rank(desk.named[0], desk.pick()))


def answer_serves(desk, reader):
    """Tell a ring of the open tracks, if there is one."""
    reader.end()
    found = ring(desk.named[0], desk.pick())
    return "yes" if found is None else "ring " + tracks_text(desk.named, found)


def answer_plan(desk, reader):
    """Tell a dealing of a train over the open tracks."""
    row, wagons = desk.train(reader.name())
    reader.end()
    dealing = plan(desk.named[0], desk.pick(), row)
    return "none" if dealing is None else print_dealing(desk.named, row, wagons, dealing)


def answer_moves(desk, reader):
    """Tell moves that bring a train home over the open tracks."""
    row, _ = desk.train(reader.name())
    reader.end()
    dealing = plan(desk.named[0], desk.pick(), row)
    return "none" if dealing is None else print_moves(desk.named, told_moves(desk.named[0], row, dealing))


def answer_bad(desk, reader):
    """Tell a row that is too much for the open tracks."""
    reader.end()
    try:
        row = bad_row(desk.named[0], desk.pick())
    except TooMany:
        return "many"
    return "none" if row is None else " ".join([str(wagon) for wagon in row])


def answer_check(desk, reader):
    """Tell why a dealing of a train does not work, if it does not."""
    row, wagons = desk.train(reader.name())
    dealing = dealing_from(reader, desk.named, row, wagons)
    reason = refuted(desk.named[0], row, dealing)
    if reason is None:
        return "home"
    kind, found = reason
    return " ".join([kind] + [wagons[wagon] for wagon in found])


def answer_cheapest(desk, reader):
    """Tell the cheapest open tracks without a ring, so many of them."""
    many = reader.number()
    reader.end()
    yard, _, prices = desk.named
    found = cheapest_of(yard, prices, desk.pick(), many)
    return "none" if found is None else tracks_text(desk.named, found)


def answer_counts(desk, reader):
    """Tell whether the open tracks are worth less without this one."""
    t = track_from(reader, desk.named)
    reader.end()
    yard = desk.named[0]
    pick = desk.pick()
    # Without a track that is shut the rank is the same.
    left = tuple([u for u in pick if u != t])
    return "yes" if rank(yard, left) < rank(yard, pick) else "no"


ANSWERS = {
    "put": answer_put,
    "drop": answer_drop,
    "worth": answer_worth,
    "serves": answer_serves,
    "plan": answer_plan,
    "moves": answer_moves,
    "bad": answer_bad,
    "check": answer_check,
    "cheapest": answer_cheapest,
    "counts": answer_counts,
}


def answer(desk, text):
    """Carry out one row at the desk, and return the answer."""
    reader = Reader(text)
    # A row that begins with a name, which is no kept word, is one of the hands'.
    if is_name(reader.ahead()):
        return answer_hand(desk, reader)
    word = reader.one_of(list(ANSWERS))
    action = ANSWERS[word]
    return action(desk, reader)
