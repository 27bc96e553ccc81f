"""A plain reading of the texts of [11.2] to [11.8] and [12.3]: tables of what may stand where. Nothing of the package
is used here."""

import re

KEPT = (
    "first second track price train home by in over out none shut free undo redo put drop worth serves plan moves bad "
    "check cheapest counts"
).split()

YARD = {
    "begin": {"first": "first lane"},
    "first lane": {"NAME": "more first"},
    "more first": {"NAME": "more first", ";": "behind first"},
    "behind first": {"second": "second lane"},
    "second lane": {"NAME": "more second"},
    "more second": {"NAME": "more second", ";": "next track"},
    "next track": {"track": "track from", "END": "read"},
    "track from": {"NAME": "track dash"},
    "track dash": {"-": "track to"},
    "track to": {"NAME": "behind track"},
    "behind track": {"price": "price", ";": "next track"},
    "price": {"NUMBER": "behind price"},
    "behind price": {";": "next track"},
}

TRAIN = {
    "train": {"train": "coming"},
    "coming": {"NAME": "coming", ";": "home"},
    "home": {"home": "leaving"},
    "leaving": {"NAME": "leaving", ";": "end"},
}

DEALING = {
    "dealing": {"NAME": "by", "END": "read"},
    "wagon": {"NAME": "by"},
    "by": {"by": "by from"},
    "by from": {"NAME": "by dash"},
    "by dash": {"-": "by to"},
    "by to": {"NAME": "behind by"},
    "behind by": {";": "wagon", "END": "read"},
}

MOVES = {
    "begin": {"in": "in lane", "over": "over from", "out": "out lane", "END": "read"},
    "move": {"in": "in lane", "over": "over from", "out": "out lane"},
    "in lane": {"NAME": "behind move"},
    "out lane": {"NAME": "behind move"},
    "over from": {"NAME": "over dash"},
    "over dash": {"-": "over to"},
    "over to": {"NAME": "behind move"},
    "behind move": {";": "move", "END": "read"},
}

ROW = {
    "begin": {
        "NAME": "hand", "put": "put word", "drop": "drop word", "plan": "drop word", "moves": "drop word",
        "check": "check word", "worth": "end", "serves": "end", "bad": "end", "cheapest": "number",
        "counts": "lane from",
    },
    "hand": {"shut": "lane from", "free": "lane from", "undo": "end", "redo": "end"},
    "lane from": {"NAME": "lane dash"},
    "lane dash": {"-": "lane to"},
    "lane to": {"NAME": "end"},
    "put word": {"NAME": "train"},
    "drop word": {"NAME": "end"},
    "check word": {"NAME": "dealing"},
    "number": {"NUMBER": "end"},
    "end": {"END": "read"},
}


class Fault(Exception):
    """A text is refused: the name of the class, and the place."""


def words(text):
    """The words of the text, each with its place."""
    if type(text) is not str:
        raise Fault("BadText", -1)
    bad = re.search(r"[^ -$&-~]", text)
    ends = [at for at in (bad.start() if bad else None, 60000 if len(text) > 60000 else None) if at is not None]
    if ends:
        raise Fault("BadText", min(ends))
    return [(found.group(), found.start()) for found in re.finditer(r"[;-]|[^ ;-]+", text)]


def kind_of(edges, word):
    """As what the word may stand here; None if it may not."""
    if word in edges and word not in ("NAME", "NUMBER", "END"):
        return word
    if "NAME" in edges and re.fullmatch(r"[a-z][a-z0-9]{0,11}", word) and word not in KEPT:
        return "NAME"
    if "NUMBER" in edges and re.fullmatch(r"0|[1-9][0-9]*", word):
        return "NUMBER"
    return None


class Reading:
    """One text that is read from the left to the right; ask has the questions of each word."""

    def __init__(self, table, text):
        self.table = table
        self.state = "begin"
        for word, place in words(text):
            kind = kind_of(table[self.state], word)
            if kind is None:
                raise Fault("BadText", place)
            if kind == "NUMBER" and len(word) > 4:
                raise Fault("BadNumber", place)
            self.ask(self.state, word, place)
            self.state = table[self.state][kind]
        if "END" not in table[self.state]:
            raise Fault("BadText", len(text))
        self.ask(self.state, None, len(text))

    def need(self, holds, error, place):
        """Refuse the text if the question is not answered well."""
        if not holds:
            raise Fault(error, place)


class YardReading(Reading):
    """A yard."""

    def __init__(self, text):
        self.lanes = {"first": [], "second": []}
        self.tracks = {}
        self.pair = None
        Reading.__init__(self, YARD, text)

    def ask(self, state, word, place):
        """The questions of [11.4]."""
        if state.endswith("lane") or (state.startswith("more") and word != ";"):
            sort = "first" if "first" in state else "second"
            self.need(len(self.lanes[sort]) < 12, "TooMany", place)
            self.need(word not in self.lanes["first"] + self.lanes["second"], "Twice", place)
            self.lanes[sort].append(word)
        elif state == "track from":
            self.need(len(self.tracks) < 60, "TooMany", place)
            self.need(word in self.lanes["first"], "NoName", place)
            self.pair = (self.lanes["first"].index(word),)
        elif state == "track to":
            self.need(word in self.lanes["second"], "NoName", place)
            self.pair += (self.lanes["second"].index(word),)
            self.need(self.pair not in self.tracks, "Twice", place)
            self.tracks[self.pair] = 0
        elif state == "price":
            self.need(int(word) < 1000, "BadNumber", place)
            self.tracks[self.pair] = int(word)

    def found(self):
        """The named yard."""
        firsts, seconds = self.lanes["first"], self.lanes["second"]
        pairs = sorted(self.tracks)
        prices = tuple(self.tracks[pair] for pair in pairs)
        return ((len(firsts), len(seconds), tuple(pairs)), (tuple(firsts), tuple(seconds)), prices)


class TrainReading(Reading):
    """A train."""

    def __init__(self, text, table=None):
        self.coming = []
        self.leaving = []
        Reading.__init__(self, table or {"begin": TRAIN["train"], "end": {"END": "read"}, **TRAIN}, text)

    def ask(self, state, word, place):
        """The questions of [11.6]."""
        if state == "coming" and word != ";":
            self.need(len(self.coming) < 400, "TooMany", place)
            self.need(word not in self.coming, "Twice", place)
            self.coming.append(word)
        elif state == "leaving" and word == ";":
            self.need(len(self.leaving) == len(self.coming), "BadText", place)
        elif state == "leaving":
            self.need(word in self.coming, "NoName", place)
            self.need(word not in self.leaving, "Twice", place)
            self.leaving.append(word)

    def found(self):
        """The row and the names of its wagons."""
        return (tuple(self.leaving.index(name) for name in self.coming), tuple(self.leaving))


class TrackReading(Reading):
    """A text in which tracks of a yard stand."""

    def __init__(self, named, table, text):
        self.named = named
        self.first = None
        self.told = []
        Reading.__init__(self, table, text)

    def ask_first(self, word, place):
        """The question of a first lane."""
        self.need(word in self.named[1][0], "NoName", place)
        self.first = self.named[1][0].index(word)

    def ask_second(self, word, place):
        """The question of a second lane."""
        self.need(word in self.named[1][1], "NoName", place)

    def ask_track(self, word, place):
        """The questions of the second lane of a track, whose number is told."""
        self.ask_second(word, place)
        pair = (self.first, self.named[1][1].index(word))
        self.need(pair in self.named[0][2], "NoTrack", place)
        return self.named[0][2].index(pair)


class DealingReading(TrackReading):
    """A dealing."""

    def __init__(self, named, row, wagons, text, table=None):
        self.row = row
        self.wagons = wagons
        self.wagon = None
        self.dealt = {}
        TrackReading.__init__(self, named, table or {"begin": DEALING["dealing"], **DEALING}, text)

    def ask(self, state, word, place):
        """The questions of [11.7]."""
        if word is None:
            self.need(len(self.dealt) == len(self.row), "BadText", place)
        elif state in ("begin", "dealing", "wagon"):
            self.need(word in self.wagons, "NoName", place)
            self.need(word not in self.dealt, "Twice", place)
            self.wagon = word
        elif state == "by from":
            self.ask_first(word, place)
        elif state == "by to":
            self.dealt[self.wagon] = self.ask_track(word, place)

    def found(self):
        """The dealing."""
        return tuple(self.dealt[self.wagons[wagon]] for wagon in self.row)


class MovesReading(TrackReading):
    """Moves."""

    def __init__(self, named, text):
        self.moves = []
        TrackReading.__init__(self, named, MOVES, text)

    def ask(self, state, word, place):
        """The questions of [11.8]."""
        if state in ("in lane", "over from"):
            self.ask_first(word, place)
        if state == "in lane":
            self.moves.append(("in", self.first))
        elif state == "out lane":
            self.ask_second(word, place)
            self.moves.append(("out", self.named[1][1].index(word)))
        elif state == "over to":
            self.moves.append(("over", self.ask_track(word, place)))

    def found(self):
        """The moves."""
        return tuple(self.moves)


class RowReading(DealingReading, TrainReading):
    """A row of the desk: what is told in it, in a list."""

    def __init__(self, named, trains, text):
        self.trains = trains
        self.coming = []
        self.leaving = []
        DealingReading.__init__(self, named, (), (), text, {**TRAIN, **DEALING, **ROW})

    def ask(self, state, word, place):
        """The questions of [12.3]."""
        if state in ("drop word", "check word"):
            self.need(word in self.trains, "NoTrain", place)
            self.row, self.wagons = self.trains[word]
        if state == "lane from":
            self.ask_first(word, place)
        elif state == "lane to":
            self.told.append(self.ask_track(word, place))
        elif state in TRAIN:
            TrainReading.ask(self, state, word, place)
        elif state in DEALING:
            DealingReading.ask(self, state, word, place)
        elif state not in ("lane dash", "end"):
            self.told.append(word)
