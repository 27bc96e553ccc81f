"""The errors of this package: all of them stand under Refused."""


class Refused(ValueError):
    """The base class of all other errors; what tells the reason, and kind the name of the class."""

    def __init__(self, what):
        self.what = what
        self.kind = self.__class__.__name__


class BadYard(Refused):
    """The argument is not a yard."""


class BadTrack(Refused):
    """The yard has no track of this number."""


class BadPick(Refused):
    """The argument is not a pick of tracks."""


class BadLane(Refused):
    """The yard has no such lane."""


class BadRow(Refused):
    """The argument is not a row."""


class BadWagon(Refused):
    """The row has no such wagon."""


class BadDealing(Refused):
    """The argument is not a dealing of the row."""


class TooMany(Refused):
    """There are more things than allowed."""


class BadStand(Refused):
    """The argument is not a stand of the row."""


class BadMove(Refused):
    """The argument is not a move."""


class NoneThere(Refused):
    """There is no wagon for the move."""


class NotDue(Refused):
    """The wagon may not leave yet."""


class Stuck(Refused):
    """The dealing does not go through."""


class BadPicks(Refused):
    """The argument is not a tuple of choices."""


class BadJournal(Refused):
    """A move of the journal is not possible."""


class Spoilt(Refused):
    """The journal and the stand do not belong together."""


class Red(Refused):
    """The move is not green."""


class BadNumber(Refused):
    """The number is out of range."""


class BadPrices(Refused):
    """The argument is not a tuple of prices."""


class NotForest(Refused):
    """The pick has a ring."""


class Unlike(Refused):
    """The picks do not have as many tracks."""


class BadNamed(Refused):
    """The argument is not a named yard."""


class BadNames(Refused):
    """The names do not fit."""


class BadName(Refused):
    """The argument is not a name."""


class BadText(Refused):
    """The text is not the written form of anything."""


class NoName(Refused):
    """There is no such name."""


class NoTrack(Refused):
    """The two lanes are not joined by a track."""


class Twice(Refused):
    """Something is told a second time."""


class NotShut(Refused):
    """The hand has not shut the track."""


class NothingToUndo(Refused):
    """The hand has nothing to undo."""


class NothingToRedo(Refused):
    """The hand has nothing to redo."""


class NoTrain(Refused):
    """There is no train of this name."""
