"""Reading trains."""

from trackworth.errors import BadText, NoName, Twice
from trackworth.reader import Reader, new_names
from trackworth.rows import MOST_WAGONS


def read_train(text):
    """Return the row and the names of its wagons, in the order in which they leave."""
    reader = Reader(text)
    train = train_from(reader)
    reader.end()
    return train


def train_from(reader):
    """Take a train, and return its row and the names of its wagons."""
    coming = new_names(reader, "train", 0, MOST_WAGONS, ())
    leaving = leaving_from(reader, coming)
    numbers = {name: wagon for wagon, name in enumerate(leaving)}
    return (tuple([numbers[name] for name in coming]), tuple(leaving))


def leaving_from(reader, coming):
    """Take the names of all wagons that come, in the order in which they leave, and return them."""
    reader.take("home")
    names = []
    while reader.ahead() != ";":
        name = reader.name()
        if name not in coming:
            raise NoName(reader.last())
        if name in names:
            raise Twice(reader.last())
        names.append(name)
    reader.take(";")
    if len(names) < len(coming):
        raise BadText(reader.last())
    return names
