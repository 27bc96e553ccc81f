"""A plain model of the desk, told by points [12] to [12.4]: all that each hand did is kept, and gone through again."""

from trackworth.badrows import bad_row
from trackworth.errors import TooMany
from trackworth.moves import told_moves
from trackworth.plans import plan
from trackworth.refuter import refuted
from trackworth.rings import ring, serves
from tests.grammar import Fault, RowReading
from tests.test_webs import pieces_by_reach


class Person:
    """What one hand did and did not take back, what it took back, and how much of it can be taken back."""

    def __init__(self):
        self.deeds = []
        self.taken = []
        self.depth = 0

    def shut(self):
        """The tracks that the hand has shut: all deeds one after the other."""
        found = set()
        for word, t in self.deeds:
            if word == "shut":
                found.add(t)
            else:
                found.remove(t)
        return found

    def do(self, word, t):
        """Shut or free a track."""
        if (word == "shut") == (t in self.shut()):
            raise Fault("Twice" if word == "shut" else "NotShut", 0)
        self.deeds.append((word, t))
        self.taken = []
        self.depth = min(self.depth + 1, 100)

    def undo(self):
        """Take back the last deed."""
        if self.depth == 0:
            raise Fault("NothingToUndo", 0)
        self.taken.append(self.deeds.pop())
        self.depth -= 1

    def redo(self):
        """Do the last one again that was taken back."""
        if not self.taken:
            raise Fault("NothingToRedo", 0)
        self.deeds.append(self.taken.pop())
        self.depth += 1


class DeskModel:
    """The desk."""

    def __init__(self, named):
        self.named = named
        self.people = {}
        self.trains = {}

    def person(self, hand):
        """The hand of this name."""
        return self.people.setdefault(hand, Person())

    def hands_of(self, t):
        """The hands that have the track shut."""
        return tuple(sorted(hand for hand, person in self.people.items() if t in person.shut()))

    def pick(self):
        """The tracks that are open."""
        return tuple(t for t in range(len(self.named[0][2])) if not self.hands_of(t))

    def row(self, text):
        """The answer to a row."""
        try:
            return self.answer(RowReading(self.named, self.trains, text))
        except Fault as fault:
            return "refused " + fault.args[0]

    def answer(self, reading):
        """The answer to a row that was read."""
        word, *rest = reading.told
        if rest and rest[0] in ("shut", "free", "undo", "redo"):
            person = self.person(word)
            {"undo": person.undo, "redo": person.redo}.get(rest[0], lambda: person.do(*rest))()
            return "ok"
        if word == "put":
            if len(self.trains) == 40 and rest[0] not in self.trains:
                raise Fault("TooMany", 41)
            numbers = {name: wagon for wagon, name in enumerate(reading.leaving)}
            self.trains[rest[0]] = (tuple(numbers[name] for name in reading.coming), tuple(reading.leaving))
            return "ok"
        if word == "drop":
            del self.trains[rest[0]]
            return "ok"
        if word in ("plan", "moves", "check"):
            return self.of_train(word, reading)
        return self.of_pick(word, rest)

    def of_train(self, word, reading):
        """The answers about a train."""
        row, wagons = reading.row, reading.wagons
        yard = self.named[0]
        if word == "check":
            dealing = tuple(reading.dealt[wagons[wagon]] for wagon in row)
            reason = refuted(yard, row, dealing)
            return "home" if reason is None else " ".join([reason[0]] + [wagons[wagon] for wagon in reason[1]])
        dealing = plan(yard, self.pick(), row)
        if dealing is None:
            return "none"
        if word == "plan":
            return "; ".join("%s by %s" % (wagons[wagon], self.text(t)) for wagon, t in zip(row, dealing))
        return "; ".join(self.move(move) for move in told_moves(yard, row, dealing))

    def of_pick(self, word, rest):
        """The answers about the open tracks."""
        yard, pick = self.named[0], self.pick()
        if word == "worth":
            return str(self.rank(pick))
        if word == "serves":
            found = ring(yard, pick)
            return "yes" if found is None else "ring " + "; ".join(self.text(t) for t in found)
        if word == "bad":
            try:
                row = bad_row(yard, pick)
            except TooMany:
                return "many"
            return "none" if row is None else " ".join(str(wagon) for wagon in row)
        if word == "counts":
            less = self.rank(tuple(t for t in pick if t != rest[0])) < self.rank(pick)
            return "yes" if rest[0] in pick and less else "no"
        taken = ()
        for t in sorted(pick, key=lambda u: (self.named[2][u], u)):
            further = tuple(sorted(taken + (t,)))
            if len(taken) < int(rest[0]) and serves(yard, further):
                taken = further
        return "; ".join(self.text(t) for t in taken) if len(taken) == int(rest[0]) else "none"

    def rank(self, pick):
        """The rank of a pick."""
        lots = pieces_by_reach(self.named[0], pick)
        return sum(len(lot) for lot in lots) - len(lots)

    def text(self, t):
        """The names of the lanes of a track."""
        a, b = self.named[0][2][t]
        return "%s - %s" % (self.named[1][0][a], self.named[1][1][b])

    def move(self, move):
        """The text of a move."""
        word, at = move
        if word == "over":
            return "over " + self.text(at)
        return "%s %s" % (word, self.named[1][0 if word == "in" else 1][at])
