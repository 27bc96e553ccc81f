"""Dealings and moves as texts: points [11.7] to [11.9]."""

import unittest

from trackworth.errors import (
    BadDealing, BadNamed, BadNames, BadPrices, BadRow, BadText, BadYard, NoName, NoTrack, Twice,
)
from trackworth.movetexts import print_dealing, print_moves, read_dealing, read_moves
from trackworth.moves import told_moves
from trackworth.plans import plan
from trackworth.yards import all_tracks
from tests.drawn import blanked, marked, some_moves, some_named, some_train, split
from tests.grammar import KEPT
from tests.model import all_moves
from tests.support import BARE, FULL, LISTS, SQUARE, assert_refused, assert_same, dice_of, nest, some_dealing
from tests.test_dealings import BAD_DEALINGS
from tests.test_dealings import ROW as DEALT_ROW
from tests.test_names import BAD_LANE_NAMES, FULL_LANES, LANES, NAMED
from tests.test_plans import row_of_falls
from tests.test_prices import BAD_PRICES
from tests.test_readtrain import MANY
from tests.test_rows import BAD_ROWS, FALLEN, LONG
from tests.test_yards import BAD_YARDS

# Three tracks of four: none from b to x.
THREE = ((2, 2, ((0, 0), (0, 1), (1, 1))), LANES, (0, 0, 0))
TRAIN = ((1, 0), ("r", "s"))
FULL_NAMED = (FULL, FULL_LANES, (0,) * 60)

# Faults of dealings of THREE and TRAIN, each with the class; the place is marked.
DEALING_FAULTS = (
    ("^", BadText), ("   ^", BadText), ("^;", BadText), ("^by a - x", BadText), ("^- x", BadText), ("^0", BadText),
    ("^R by a - x", BadText), ("^none", BadText), ("r^", BadText), ("r ^a - x", BadText), ("r ^in a", BadText),
    ("r ^;", BadText), ("r ^r by a - x", BadText), ("r by^", BadText), ("r by ^- x", BadText), ("r by ^;", BadText),
    ("r by ^over - x", BadText), ("r by a^", BadText), ("r by a ^x", BadText), ("r by a ^; x", BadText),
    ("r by a -^", BadText), ("r by a - ^-", BadText), ("r by a - ^;", BadText), ("r by a - ^7", BadText),
    ("r by a - x^", BadText), ("r by a - x  ^", BadText), ("r by a - x ^s by a - x", BadText),
    ("r by a - x ^- y", BadText), ("r by a - x ^by", BadText), ("r by a - x ;^", BadText), ("r by a - x ; ^;", BadText),
    ("r by a - x ; ^by", BadText), ("r by a - x ; s by b - y ;^", BadText), ("r by a - x ; s by b - y ^r", BadText),
    ("r by a - x ; s by b - y ; ^;", BadText), ("r by a - x ; s by b - y ^price", BadText),
    ("^q by a - x", NoName), ("^a by r - x", NoName), ("^q ; ;", NoName), ("r by a - x ; ^q by", NoName),
    ("r by a - x ; s by b - y ; ^q by", NoName),
    ("r by a - x ; ^r by a - x", Twice), ("r by a - x ; ^r ;", Twice), ("r by a - x ; s by b - y ; ^s by", Twice),
    ("r by ^c - x", NoName), ("r by ^x - a", NoName), ("r by ^r - x", NoName), ("r by ^y - -", NoName),
    ("r by a - ^z", NoName), ("r by a - ^b", NoName), ("r by b - ^a ; q", NoName), ("r by a - ^r", NoName),
    ("r by b - ^x", NoTrack), ("r by a - y ; s by b - ^x ;", NoTrack), ("s by b - ^x", NoTrack),
)

# Faults of moves of THREE.
MOVE_FAULTS = (
    ("^;", BadText), ("^a", BadText), ("^- a", BadText), ("^7", BadText), ("^by a - x", BadText), ("^In a", BadText),
    ("in^", BadText), ("in ^;", BadText), ("in ^in", BadText), ("in ^0", BadText), ("in a ^a", BadText),
    ("in a ^- x", BadText), ("in a ;^", BadText), ("in a ; ^;", BadText), ("in a ; ^a", BadText),
    ("in a ^in b", BadText),
    ("over^", BadText), ("over ^- x", BadText), ("over ^over", BadText), ("over a^", BadText), ("over a ^x", BadText),
    ("over a ^; out x", BadText), ("over a -^", BadText), ("over a - ^-", BadText), ("over a - ^out", BadText),
    ("over a - x ^- y", BadText), ("over a - x ; ^-", BadText), ("out^", BadText), ("out ^out", BadText),
    ("out x ^x", BadText), ("out x ;   ^", BadText), ("out x ^price 7", BadText),
    ("in ^c", NoName), ("in ^x", NoName), ("in ^y -", NoName), ("out ^a", NoName), ("out ^z", NoName),
    ("out ^b b", NoName), ("over ^c - x", NoName), ("over ^x - a", NoName), ("over ^x ;", NoName),
    ("over a - ^a", NoName), ("over a - ^z", NoName), ("over b - ^b", NoName),
    ("over b - ^x", NoTrack), ("over b - ^x -", NoTrack), ("in a ; over a - y ; over b - ^x", NoTrack),
)


class WrongArguments:
    """What all these functions say of a wrong named yard, and some of a wrong train."""

    def assert_named_comes_first(self, function, *arguments):
        """A thing that is no named yard is refused, whatever else is wrong."""
        for thing in (None, True, 0, "", (), NAMED[:2], NAMED + (0,), nest(20)) + LISTS:
            assert_refused(self, BadNamed, -1, function, thing, *arguments)
        for thing, what in BAD_YARDS:
            assert_refused(self, BadYard, what, function, (thing, LANES, (0,) * 4), *arguments)
        for names, what in BAD_LANE_NAMES:
            assert_refused(self, BadNamed, what, function, (SQUARE, names, (0,) * 4), *arguments)
        for prices, what in BAD_PRICES:
            assert_refused(self, BadPrices, what, function, (SQUARE, LANES, prices), *arguments)

    def assert_then_trains(self, function, last):
        """Then the row is looked at, and then the names of its wagons."""
        for thing, what in BAD_ROWS:
            assert_refused(self, BadRow, what, function, NAMED, thing, None, last)
        for wagons in (None, True, 0, "", "rs", (), ("r",), ("r", "r"), ("r", "s", "t"), ("r", "S"), ("r", 0),
                       ("by", "r"), ("r", None), ["r", "s"], ("r", ["s"])) + LISTS:
            assert_refused(self, BadNames, 0, function, NAMED, (1, 0), wagons, last)


class ReadDealingTest(unittest.TestCase, WrongArguments):

    def test_ordinary_dealings(self):
        assert_same(self, read_dealing(THREE, *TRAIN, "r by a - x; s by b - y"), (2, 0))
        assert_same(self, read_dealing(THREE, *TRAIN, "s by b - y; r by a - x"), (2, 0))
        assert_same(self, read_dealing(THREE, *TRAIN, "s by a-y;r by a-y"), (1, 1))
        found = read_dealing(named=THREE, row=(0,), wagons=("a",), text=" a  by a - x ")
        assert_same(self, found, (0,))

    def test_the_train_without_wagons(self):
        for named in (NAMED, THREE, (BARE, (("a",), ("b",)), ())):
            assert_same(self, read_dealing(named, (), (), ""), ())
            assert_same(self, read_dealing(named, (), (), "    "), ())
            assert_refused(self, NoName, 1, read_dealing, named, (), (), " r by a - x")
            assert_refused(self, BadText, 0, read_dealing, named, (), (), ";")
            assert_refused(self, BadText, 0, read_dealing, named, (), (), "by")

    def test_each_fault_at_its_place(self):
        for told, error in DEALING_FAULTS:
            text, place = marked(told)
            assert_refused(self, error, place, read_dealing, THREE, *TRAIN, text)
            assert_refused(self, error, place + 3, read_dealing, THREE, *TRAIN, "   " + text)

    def test_the_end_when_not_all_wagons_are_told(self):
        row, wagons = (2, 0, 1), ("r", "s", "t")
        parts = ["t by a - x", "r by a - y", "s by b - y"]
        for many in range(3):
            text = "; ".join(parts[:many])
            assert_refused(self, BadText, len(text), read_dealing, THREE, row, wagons, text)
        assert_same(self, read_dealing(THREE, row, wagons, "; ".join(parts)), (0, 1, 2))

    def test_a_yard_without_tracks(self):
        named = (BARE, (("a",), ("b",)), ())
        assert_refused(self, NoTrack, 9, read_dealing, named, (0,), ("r",), "r by a - b")
        assert_refused(self, NoName, 9, read_dealing, named, (0,), ("r",), "r by a - a")

    def test_wagons_may_be_called_as_lanes_are(self):
        assert_same(self, read_dealing(THREE, (0, 1), ("a", "x"), "x by a - x; a by b - y"), (2, 0))

    def test_kept_words(self):
        for word in KEPT:
            assert_refused(self, BadText, 0, read_dealing, THREE, *TRAIN, word)
            assert_refused(self, BadText, 5, read_dealing, THREE, *TRAIN, "r by " + word)
            assert_refused(self, BadText, 9, read_dealing, THREE, *TRAIN, "r by a - " + word)

    def test_wrong_arguments_ahead_of_the_text(self):
        self.assert_named_comes_first(read_dealing, None, None, None)
        self.assert_named_comes_first(read_dealing, *TRAIN, "r by a - x; s by b - y")
        self.assert_then_trains(read_dealing, None)
        self.assert_then_trains(read_dealing, "q")
        for text in (None, True, 5, (), [], ("r",), b"r"):
            assert_refused(self, BadText, -1, read_dealing, NAMED, *TRAIN, text)


class PrintDealingTest(unittest.TestCase, WrongArguments):

    def test_ordinary_dealings(self):
        assert_same(self, print_dealing(THREE, *TRAIN, (2, 0)), "s by b - y; r by a - x")
        assert_same(self, print_dealing(named=THREE, row=(0,), wagons=("q",), dealing=(1,)), "q by a - y")
        assert_same(self, print_dealing(THREE, (), (), ()), "")
        assert_same(self, print_dealing((BARE, (("a",), ("b",)), ()), (), (), ()), "")

    def test_reading_gives_back_what_was_printed(self):
        dice = dice_of(115)
        printed = 0
        for _ in range(300):
            named = some_named(dice)
            row, wagons = some_train(dice, 12 if named[0][2] else 0)
            dealing = some_dealing(dice, named[0], row)
            text = print_dealing(named, row, wagons, dealing)
            assert_same(self, read_dealing(named, row, wagons, text), dealing)
            parts = text.split("; ") if text else []
            dice.shuffle(parts)
            turned = blanked(dice, split("; ".join(parts)))
            assert_same(self, read_dealing(named, row, wagons, turned), dealing)
            self.assertEqual(text, " ".join(split(text)).replace(" ;", ";"))
            printed += bool(dealing)
        self.assertGreater(printed, 200)

    def test_four_hundred_wagons(self):
        for row in (LONG, FALLEN):
            dealing = LONG[:60] * 6 + LONG[:40]
            text = print_dealing(FULL_NAMED, row, MANY, dealing)
            assert_same(self, read_dealing(FULL_NAMED, row, MANY, text), dealing)

    def test_wrong_arguments(self):
        self.assert_named_comes_first(print_dealing, None, None, None)
        self.assert_named_comes_first(print_dealing, *TRAIN, (0, 1))
        self.assert_then_trains(print_dealing, None)
        self.assert_then_trains(print_dealing, (0, 0))
        for thing, what in BAD_DEALINGS:
            assert_refused(self, BadDealing, what, print_dealing, NAMED, DEALT_ROW, ("r", "s", "t", "u"), thing)


class ReadMovesTest(unittest.TestCase, WrongArguments):

    def test_ordinary_moves(self):
        found = (("in", 0), ("over", 2), ("out", 1), ("in", 1), ("out", 0), ("over", 1))
        text = "in a; over b - y; out y; in b; out x; over a - y"
        assert_same(self, read_moves(THREE, text), found)
        assert_same(self, read_moves(named=THREE, text="in b"), (("in", 1),))

    def test_no_moves(self):
        for text in ("", " ", "     "):
            assert_same(self, read_moves(THREE, text), ())

    def test_each_fault_at_its_place(self):
        for told, error in MOVE_FAULTS:
            text, place = marked(told)
            assert_refused(self, error, place, read_moves, THREE, text)
            assert_refused(self, error, place + 19, read_moves, THREE, "in a ; over b - y ;" + text)

    def test_a_yard_without_tracks(self):
        named = (BARE, (("a",), ("b",)), ())
        assert_refused(self, NoTrack, 9, read_moves, named, "over a - b")
        assert_same(self, read_moves(named, "in a; out b"), (("in", 0), ("out", 0)))

    def test_kept_words(self):
        for word in KEPT:
            if word not in ("in", "over", "out"):
                assert_refused(self, BadText, 0, read_moves, THREE, word + " a")
            assert_refused(self, BadText, 3, read_moves, THREE, "in " + word)
            assert_refused(self, BadText, 4, read_moves, THREE, "out " + word)
            assert_refused(self, BadText, 9, read_moves, THREE, "over a - " + word)

    def test_a_text_full_of_moves(self):
        text = "in a;" * 11999 + "in b "
        self.assertEqual(len(text), 60000)
        assert_same(self, read_moves(THREE, text), (("in", 0),) * 11999 + (("in", 1),))

    def test_wrong_arguments_ahead_of_the_text(self):
        self.assert_named_comes_first(read_moves, None)
        self.assert_named_comes_first(read_moves, "in a")
        for text in (None, True, 5, (), [], ("in", 0), (("in", 0),), b"in a"):
            assert_refused(self, BadText, -1, read_moves, NAMED, text)


class PrintMovesTest(unittest.TestCase, WrongArguments):

    def test_ordinary_moves(self):
        moves = (("in", 0), ("over", 2), ("out", 1), ("in", 1), ("out", 0), ("over", 1))
        assert_same(self, print_moves(THREE, moves), "in a; over b - y; out y; in b; out x; over a - y")
        assert_same(self, print_moves(named=THREE, moves=()), "")
        assert_same(self, print_moves(THREE, (("out", 0),)), "out x")

    def test_reading_gives_back_what_was_printed(self):
        dice = dice_of(116)
        for _ in range(300):
            named = some_named(dice)
            moves = some_moves(dice, named[0], 20)
            text = print_moves(named, moves)
            assert_same(self, read_moves(named, text), moves)
            assert_same(self, read_moves(named, blanked(dice, split(text))), moves)
            self.assertEqual(text, " ".join(split(text)).replace(" ;", ";"))
        moves = tuple(all_moves(FULL))
        assert_same(self, read_moves(FULL_NAMED, print_moves(FULL_NAMED, moves)), moves)

    def test_the_moves_of_four_hundred_wagons(self):
        row = row_of_falls(400, 16)
        moves = told_moves(FULL, row, plan(FULL, all_tracks(FULL), row))
        names = tuple("lane%08d" % at for at in range(24))
        named = (FULL, (names[:12], names[12:]), (0,) * 60)
        assert_same(self, read_moves(named, print_moves(named, moves)), moves)

    def test_named_yards_that_are_none(self):
        self.assert_named_comes_first(print_moves, ())
        self.assert_named_comes_first(print_moves, (("in", 0),))


if __name__ == "__main__":
    unittest.main()
