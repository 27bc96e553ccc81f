"""The words of texts, and a reader that goes through them."""

from trackworth.errors import BadNumber, BadText, TooMany, Twice
from trackworth.words import FIGURES, is_name

LONGEST_TEXT = 60000
LOWEST_CODE = 32
HIGHEST_CODE = 126
BARRED_CODE = 37
MOST_FIGURES = 4
# Signs that end a word; but for the blank, they are words themselves.
BREAKS = " ;-"


class Reader:
    """It goes through the words of a text from the left to the right, and refuses what may not stand there."""

    def __init__(self, text):
        need_text(text)
        self.words = words_of(text)
        self.at = 0

    def ahead(self):
        """Return the next word; the empty text at the end."""
        return self.words[self.at][0]

    def place(self):
        """Return the place of the next word; the length of the text at the end."""
        return self.words[self.at][1]

    def last(self):
        """Return the place of the word that was taken last."""
        return self.words[self.at - 1][1]

    def ended(self):
        """Tell whether no word is left."""
        return self.ahead() == ""

    def end(self):
        """Refuse any further word."""
        if not self.ended():
            raise BadText(self.place())

    def one_of(self, words):
        """Take the next word, which has to be one of these, and return it."""
        word = self.ahead()
        if word not in words:
            raise BadText(self.place())
        self.at += 1
        return word

    def take(self, word):
        """Take the next word, which has to be this one."""
        self.one_of((word,))

    def name(self):
        """Take the next word, which has to be a name, and return it."""
        word = self.ahead()
        if not is_name(word):
            raise BadText(self.place())
        self.at += 1
        return word

    def number(self):
        """Take the next word, which has to be a number of few figures, and return the number."""
        word = self.ahead()
        if not is_figures(word):
            raise BadText(self.place())
        self.at += 1
        if len(word) > MOST_FIGURES:
            raise BadNumber(self.last())
        return int(word)


def need_text(text):
    """Raise BadText if the argument is not a text, for its first sign that no text has, or if it is too long."""
    if not isinstance(text, str):
        raise BadText(-1)
    for place, sign in enumerate(text):
        code = ord(sign)
        if place == LONGEST_TEXT or not LOWEST_CODE <= code <= HIGHEST_CODE or code == BARRED_CODE:
            raise BadText(place)


def words_of(text):
    """Return the words of the text with their places, and behind them the empty text with the place of the end."""
    found = []
    start = 0
    # The blank behind the text ends its last word.
    for place, sign in enumerate(text + " "):
        if sign in BREAKS:
            if start < place:
                found.append((text[start:place], start))
            if sign != " ":
                found.append((sign, place))
            start = place + 1
    found.append(("", len(text)))
    return found


def is_figures(word):
    """Tell whether the word is written as a number is."""
    if word == "" or not all(sign in FIGURES for sign in word):
        return False
    return word == "0" or word[0] != "0"


def new_names(reader, word, least, most, told):
    """Return the names behind a word, up to the semicolon: so many, and each unlike the others and those told."""
    reader.take(word)
    names = []
    while len(names) < least or reader.ahead() != ";":
        name = reader.name()
        if len(names) == most:
            raise TooMany(reader.last())
        if name in names or name in told:
            raise Twice(reader.last())
        names.append(name)
    reader.take(";")
    return names
