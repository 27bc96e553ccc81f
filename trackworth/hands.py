"""Hands: what each of the people at a desk has shut."""

from trackworth.errors import NothingToRedo, NothingToUndo

MOST_DONE = 100


class Hand:
    """The tracks that one hand has shut, and what it can take back and do again."""

    def __init__(self):
        self.held = {}
        # A shut and a free of a track both turn it, and so does taking one of them back: the tracks tell it all.
        self.done = []
        self.undone = []

    def holds(self, t):
        """Tell whether the hand has the track shut."""
        return t in self.held

    def turn(self, t):
        """Shut the track, or free it if it is shut, so that this can be taken back."""
        self.switch(t)
        self.done.append(t)
        if len(self.done) > MOST_DONE:
            self.done.pop(0)
        self.undone = []

    def undo(self):
        """Take back what was done last."""
        if len(self.done) == 0:
            raise NothingToUndo(0)
        t = self.done.pop()
        self.switch(t)
        self.undone.append(t)

    def redo(self):
        """Do again what was taken back last."""
        if len(self.undone) == 0:
            raise NothingToRedo(0)
        t = self.undone.pop()
        self.switch(t)
        self.done.append(t)

    def switch(self, t):
        """Shut the track, or free it if it is shut."""
        if self.holds(t):
            del self.held[t]
        else:
            self.held[t] = True
