"""The desk at which several hands shut and free the tracks of one yard."""

from trackworth.deskrows import answer
from trackworth.errors import BadName, BadTrack, NotShut, NoTrain, Refused, TooMany, Twice
from trackworth.figures import within
from trackworth.hands import Hand
from trackworth.names import made_named, need_train
from trackworth.words import is_name
from trackworth.yards import all_tracks

MOST_TRAINS = 40


class Desk:
    """It keeps a named yard, the tracks that each hand has shut, and trains."""

    def __init__(self, named):
        self.named = made_named(named)
        self.hands = {}
        self.trains = {}

    def shut(self, hand, t):
        """Shut a track for a hand."""
        found = self.hand(hand)
        self.need_track(t)
        if found.holds(t):
            raise Twice(0)
        found.turn(t)
        self.hands[hand] = found

    def free(self, hand, t):
        """Free a track that the hand has shut."""
        found = self.hand(hand)
        self.need_track(t)
        if not found.holds(t):
            raise NotShut(0)
        found.turn(t)

    def undo(self, hand):
        """Take back what the hand did last."""
        self.hand(hand).undo()

    def redo(self, hand):
        """Do again what the hand took back last."""
        self.hand(hand).redo()

    def put(self, word, row, wagons):
        """Keep a train under a word, in place of the one that is kept there."""
        if not is_name(word):
            raise BadName(word)
        need_train(row, wagons)
        if word not in self.trains and len(self.trains) == MOST_TRAINS:
            raise TooMany(MOST_TRAINS + 1)
        self.trains[word] = (row, wagons)

    def drop(self, word):
        """Keep the train under this word no longer."""
        self.train(word)
        del self.trains[word]

    def pick(self):
        """Return the tracks that no hand has shut."""
        return tuple([t for t in all_tracks(self.named[0]) if len(self.hands_of(t)) == 0])

    def hands_of(self, t):
        """Return the hands that have the track shut, ascending."""
        self.need_track(t)
        return tuple(sorted([name for name, hand in self.hands.items() if hand.holds(t)]))

    def row(self, text):
        """Carry out one row, and return the answer; if it is refused, the answer tells the class of the error."""
        try:
            return answer(self, text)
        except Refused as error:
            return "refused " + error.kind

    def hand(self, name):
        """Return the hand of this name; a new one, which is not kept yet, if it has done nothing so far."""
        if not is_name(name):
            raise BadName(name)
        return self.hands[name] if name in self.hands else Hand()

    def train(self, word):
        """Return the row and the names of the train that is kept under a word."""
        if not is_name(word) or word not in self.trains:
            raise NoTrain(word)
        return self.trains[word]

    def need_track(self, t):
        """Raise BadTrack if the yard has no track of this number."""
        if not within(t, 0, len(self.named[0][2]) - 1):
            raise BadTrack(t)
