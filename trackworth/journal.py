"""Journals of moves, and engines that go on after a cut of the power."""

from trackworth.dealings import made_dealing
from trackworth.engine import stand_after
from trackworth.errors import BadJournal, BadMove, BadPicks, BadStand, NoneThere, NotDue, Red, Spoilt
from trackworth.rows import made_row
from trackworth.signals import green_moves, shows_green
from trackworth.stands import all_home, begun, is_stand
from trackworth.yards import made_yard


def replayed(yard, row, journal):
    """Return the stand to which the journal replays."""
    stand = begun(yard, row)
    if not isinstance(journal, tuple):
        raise BadJournal(-1)
    for at, move in enumerate(journal):
        try:
            stand = stand_after(yard, stand, move)
        except (BadMove, NoneThere, NotDue):
            raise BadJournal(at) from None
    return stand


def opened(yard, row, journal, stand):
    """Return the journal that belongs to the stand: all of it, or all but its last entry."""
    made_yard(yard)
    made_row(row)
    if not isinstance(journal, tuple):
        raise BadJournal(-1)
    if not is_stand(yard, row, stand):
        raise BadStand(-1)
    for kept in (journal, journal[:-1]):
        if leads_to(yard, row, kept, stand):
            return tuple(list(kept))
    raise Spoilt(-1)


def leads_to(yard, row, journal, stand):
    """Tell whether the journal replays to the stand."""
    try:
        found = replayed(yard, row, journal)
    except BadJournal:
        return False
    return found == stand


class Engine:
    """It drives one row through one yard by a dealing, makes green moves only, and keeps a journal of them."""

    def __init__(self, yard, row, dealing):
        made_dealing(yard, row, dealing)
        self.yard = made_yard(yard)
        self.dealt = dict(zip(row, dealing))
        self.entries = []
        self.now = begun(yard, row)

    def stand(self):
        """Return the stand."""
        return tuple(list(self.now))

    def journal(self):
        """Return the journal, which replays to the stand."""
        return tuple(self.entries)

    def greens(self):
        """Return the green moves."""
        return green_moves(self.yard, self.dealt, self.now)

    def home(self):
        """Tell whether all wagons have left."""
        return all_home(self.now)

    def do(self, move):
        """Write a green move into the journal, and make it."""
        if not shows_green(self.yard, self.dealt, self.now, move):
            raise Red(move)
        self.entries.append(move)
        self.now = stand_after(self.yard, self.now, move)

    def cut(self, move, done):
        """Return the journal and the stand that a cut leaves, with the move written, and made only if done."""
        if not shows_green(self.yard, self.dealt, self.now, move):
            raise Red(move)
        if done is not True and done is not False:
            raise BadPicks(0)
        found = stand_after(self.yard, self.now, move) if done else self.stand()
        return (tuple(self.entries + [move]), found)

    @staticmethod
    def again(yard, row, dealing, journal, stand):
        """Return an engine that goes on from what a cut has left."""
        made = Engine(yard, row, dealing)
        made.entries = list(opened(yard, row, journal, stand))
        made.now = tuple(list(stand))
        return made
