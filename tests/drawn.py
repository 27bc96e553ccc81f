"""Drawn named yards, trains and moves, and texts with blanks and faults."""

from trackworth.prices import HIGHEST_PRICE
from tests.grammar import KEPT, Fault
from tests.model import all_moves
from tests.support import some_row, some_yard

LETTERS = "abcdefghijklmnopqrstuvwxyz"
SIGNS = LETTERS + "0123456789"

# Words of all kinds, right and wrong ones, which take the place of others.
POOL = tuple(KEPT) + (
    ";", "-", "0", "7", "00", "01", "999", "1000", "9999", "10000", "00000", "9" * 30, "a", "b", "x", "zz", "a1",
    "abcdefghijkl", "abcdefghijklm", "A", "aB", "a_b", "=", "a.b", "1a", "first1", "t", "r", "s", ";;", "--", "- ;",
)


def some_name(dice):
    """Any name."""
    name = dice.choice(LETTERS)
    if dice.randint(0, 3) > 0:
        name += "".join(dice.choice(SIGNS) for _ in range(dice.randint(0, 11)))
    return name


def some_names(dice, many):
    """So many different names, none of them a kept word."""
    names = []
    while len(names) < many:
        name = some_name(dice)
        if name not in names and name not in KEPT:
            names.append(name)
    return tuple(names)


def some_named(dice, most_lanes=4):
    """Any named yard."""
    yard = some_yard(dice, most_lanes)
    names = some_names(dice, yard[0] + yard[1])
    most = dice.choice((0, 1, 9, HIGHEST_PRICE))
    return (yard, (names[:yard[0]], names[yard[0]:]), tuple(dice.randint(0, most) for _ in yard[2]))


def some_train(dice, most):
    """Any row with the names of its wagons."""
    row = some_row(dice, most)
    return (row, some_names(dice, len(row)))


def some_moves(dice, yard, most):
    """Any moves of the yard, whether or not they can be made."""
    return tuple(dice.choice(all_moves(yard)) for _ in range(dice.randint(0, most)))


def blanked(dice, words):
    """The words as a text, with any number of blanks between them and at both ends, and none where none is needed."""
    text = " " * dice.choice((0, 0, 1, 3))
    for at, word in enumerate(words):
        least = 1 if at > 0 and word not in (";", "-") and words[at - 1] not in (";", "-") else 0
        text += " " * (least + dice.choice((0, 0, 1, 2))) + word
    return text + " " * dice.choice((0, 0, 1, 3))


def split(text):
    """The words of a printed text."""
    return text.replace(";", " ; ").replace("-", " - ").split()


def faulty(dice, words, pool):
    """The words with a fault or two, which may still be none."""
    words = list(words)
    for _ in range(dice.choice((1, 1, 1, 2))):
        at = dice.randint(0, len(words))
        kind = dice.choice(("put", "put", "replace", "replace", "replace", "drop", "cut", "swap", "again"))
        if kind == "put":
            words.insert(at, dice.choice(pool))
        elif kind == "replace":
            words[at:at + 1] = [dice.choice(pool)]
        elif kind == "drop":
            del words[at:at + 1]
        elif kind == "cut":
            del words[at:]
        elif kind == "again":
            words[at:at] = words[:at][-dice.randint(1, 6):]
        elif at < len(words):
            other = dice.randrange(len(words))
            words[at], words[other] = words[other], words[at]
    return words


def marked(text):
    """The text without the mark, and the place of the mark in it."""
    return text.replace("^", ""), text.index("^")


def told(reading, *arguments):
    """What a plain reading makes of a text: what it finds, or the class and the place of the fault."""
    try:
        return ("found", reading(*arguments).found())
    except Fault as fault:
        return fault.args


def answered(function, *arguments):
    """What the package makes of a text: what it finds, or the class and the place of the fault."""
    try:
        return ("found", function(*arguments))
    except ValueError as error:
        return (type(error).__name__, error.what)


class Talk:
    """Rows for the desk of a named yard, as several hands would say them, most of them without a fault."""

    def __init__(self, dice, named, hands, trains):
        self.dice = dice
        self.named = named
        self.hands = hands
        self.words = trains
        self.trains = {}

    def lanes(self):
        """The lanes of a track, mostly of one that is there."""
        firsts, seconds = self.named[1]
        if self.named[0][2] and self.dice.randint(0, 9):
            a, b = self.dice.choice(self.named[0][2])
        else:
            a, b = self.dice.randrange(len(firsts)), self.dice.randrange(len(seconds))
        return [firsts[a], "-", seconds[b]]

    def train(self, most):
        """A train as it is put."""
        row, wagons = some_train(self.dice, most)
        return row, wagons, ["train"] + [wagons[wagon] for wagon in row] + [";", "home"] + list(wagons) + [";"]

    def dealing(self, word):
        """A dealing of the train that was put last under this word, mostly right."""
        words = []
        for name in self.trains.get(word, ((), ()))[1]:
            words += [";"] * bool(words) + [name, "by"] + self.lanes()
        return words

    def row(self):
        """The words of any row."""
        dice = self.dice
        hand, word = dice.choice(self.hands), dice.choice(self.words)
        kind = dice.choice(("shut",) * 4 + ("free",) * 3 + ("undo", "redo") * 2 + (
            "put", "put", "drop", "worth", "serves", "plan", "plan", "moves", "bad", "check", "check", "cheapest",
            "counts", "counts",
        ))
        if kind in ("shut", "free"):
            return [hand, kind] + self.lanes()
        if kind in ("undo", "redo"):
            return [hand, kind]
        if kind == "put":
            row, wagons, words = self.train(5)
            self.trains[word] = (row, wagons)
            return ["put", word] + words
        if kind == "check":
            return ["check", word] + self.dealing(word)
        return {
            "cheapest": ["cheapest", str(dice.choice((0, 1, 2, 3, 4, 5, 60, 61, 9999, 10000)))],
            "counts": ["counts"] + self.lanes(), "drop": ["drop", word], "plan": ["plan", word],
            "moves": ["moves", word],
        }.get(kind, [kind])

    def text(self, faults):
        """Any row as a text, one of so many with a fault."""
        words = self.row()
        if self.dice.randrange(faults) == 0:
            words = faulty(self.dice, words, POOL + self.named[1][0] + self.named[1][1] + self.hands)
        return blanked(self.dice, words)
