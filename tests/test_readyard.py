"""Yards as texts: points [11.4], [11.5], [11.9] and [11.10]."""

import unittest

from trackworth.errors import BadNamed, BadNumber, BadPrices, BadText, BadYard, NoName, TooMany, Twice
from trackworth.names import is_named, made_named
from trackworth.printyard import print_yard
from trackworth.readyard import read_yard
from tests.drawn import blanked, marked, some_named, split
from tests.grammar import KEPT
from tests.support import BARE, FULL, LISTS, SQUARE, assert_refused, assert_same, complete, dice_of, nest
from tests.test_names import BAD_LANE_NAMES, FULL_LANES, GOOD_NAMED, LANES, NAMED
from tests.test_prices import BAD_PRICES
from tests.test_yards import BAD_YARDS

TWELVE = "first " + " ".join(FULL_LANES[0]) + " ; second " + " ".join(FULL_LANES[1]) + " ;"
SIXTY = [" track f%d - s%d ;" % pair for pair in FULL[2]]

# Each with the class; the place is marked.
FAULTS = (
    # The grammar.
    ("^", BadText), ("   ^", BadText), ("^second a ; first x ;", BadText), ("^a ;", BadText), ("^First a ;", BadText),
    ("first^", BadText), ("first ^;", BadText), ("first  ^; second x ;", BadText), ("first ^second x ;", BadText),
    ("first ^first ; second x ;", BadText), ("first ^A ; second x ;", BadText), ("first ^7 ; second x ;", BadText),
    ("first ^abcdefghijklm ; second x ;", BadText), ("first a ^- b ; second x ;", BadText), ("first a ^", BadText),
    ("first a ^price ; second x ;", BadText), ("first a ^b_c ; second x ;", BadText), ("first ^a, b ;", BadText),
    ("first a ; ^", BadText), ("first a ; ^;", BadText), ("first a ; ^x ;", BadText), ("first a ; ^first x ;", BadText),
    ("first a ; second ^;", BadText), ("first a ; second ^", BadText), ("first a ; second x ^", BadText),
    ("first a ; second x ^- ;", BadText), ("first a ; second ^track ;", BadText), ("first a ; second x ; ^;", BadText),
    ("first a ; second x ; ^a - x ;", BadText), ("first a ; second x ; ^price 7 ;", BadText),
    ("first a ; second x ; track ^", BadText), ("first a ; second x ; track ^;", BadText),
    ("first a ; second x ; track ^- x ;", BadText), ("first a ; second x ; track ^7 - x ;", BadText),
    ("first a ; second x ; track a ^", BadText), ("first a ; second x ; track a ^x ;", BadText),
    ("first a ; second x ; track a ^; - x", BadText), ("first a ; second x ; track a - ^", BadText),
    ("first a ; second x ; track a - ^- x ;", BadText), ("first a ; second x ; track a - ^;", BadText),
    ("first a ; second x ; track a - ^12 ;", BadText), ("first a ; second x ; track a - x ^", BadText),
    ("first a ; second x ; track a - x ^track", BadText), ("first a ; second x ; track a - x ^7 ;", BadText),
    ("first a ; second x ; track a - x price ^", BadText), ("first a ; second x ; track a - x price ^;", BadText),
    ("first a ; second x ; track a - x price ^seven ;", BadText),
    ("first a ; second x ; track a - x price ^- 7 ;", BadText),
    ("first a ; second x ; track a - x price ^+7 ;", BadText),
    ("first a ; second x ; track a - x price ^01 ;", BadText),
    ("first a ; second x ; track a - x price ^00 ;", BadText),
    ("first a ; second x ; track a - x price ^00000 ;", BadText),
    ("first a ; second x ; track a - x price ^7a ;", BadText),
    ("first a ; second x ; track a - x price ^7.0 ;", BadText),
    ("first a ; second x ; track a - x price 7 ^", BadText), ("first a ; second x ; track a - x price 7 ^8 ;", BadText),
    ("first a ; second x ; track a - x price 7 ^price 8 ;", BadText),
    ("first a ; second x ; track a - x price 7 ; ^end", BadText),
    # Lanes that are told twice.
    ("first a ^a ; second x ;", Twice), ("first a b c ^b ; second x ;", Twice), ("first a ; second ^a ;", Twice),
    ("first a ; second x ^x ;", Twice), ("first a b ; second x ^b ;", Twice), ("first a ^a - -", Twice),
    # Lanes that are not there.
    ("first a ; second x ; track ^b - x ;", NoName), ("first a ; second x ; track ^x - a ;", NoName),
    ("first a ; second x ; track ^x - x ;", NoName), ("first a ; second x ; track a - ^a ;", NoName),
    ("first a ; second x ; track a - ^y ;", NoName), ("first a ; second x ; track a - ^y price 01 ;", NoName),
    ("first a ; second x ; track ^b ; - x ;", NoName),
    # Tracks that are told twice.
    ("first a ; second x ; track a - x ; track a - ^x ;", Twice),
    ("first a ; second x ; track a - x price 7 ; track a - ^x price 1000 ;", Twice),
    ("first a b ; second x ; track b - x ; track a - x ; track b - ^x ;", Twice),
    # Prices.
    ("first a ; second x ; track a - x price ^1000 ;", BadNumber),
    ("first a ; second x ; track a - x price ^9999 ;", BadNumber),
    ("first a ; second x ; track a - x price ^10000 ;", BadNumber),
    ("first a ; second x ; track a - x price ^" + "9" * 5000 + " ;", BadNumber),
    ("first a ; second x ; track a - x price ^1000 - ;", BadNumber),
)


class ReadYardTest(unittest.TestCase):

    def test_the_examples(self):
        found = ((2, 1, ((0, 0), (1, 0))), (("a", "b"), ("x",)), (0, 30))
        assert_same(self, read_yard("first a b;second x ; track b-x price 30; track a - x;"), found)
        assert_same(self, print_yard(found), "first a b; second x; track a - x; track b - x price 30;")
        assert_refused(self, Twice, 17, read_yard, "first a ; second a ;")
        assert_refused(self, NoName, 31, read_yard, "first a ; second x ; track a - y ;")
        assert_refused(self, NoName, 27, read_yard, "first a ; second x ; track x - a ;")
        assert_refused(self, BadText, 18, read_yard, "first a ; second x")
        assert_refused(self, BadText, 6, read_yard, "first track ;")
        assert_refused(self, BadText, 39, read_yard, "first a ; second x ; track a - x price 01 ;")
        assert_refused(self, BadNumber, 39, read_yard, "first a ; second x ; track a - x price 1000 ;")

    def test_each_fault_at_its_place(self):
        for told, error in FAULTS:
            text, place = marked(told)
            assert_refused(self, error, place, read_yard, text)
            assert_refused(self, error, place + 4, read_yard, "    " + text)

    def test_tracks_in_any_order_keep_their_prices(self):
        rows = ["track b - y price 4;", "track a - y price 2;", "track b - x price 3;", "track a - x price 1;"]
        for turn in range(4):
            for told in (rows[turn:] + rows[:turn], rows[turn::-1] + rows[:turn:-1]):
                found = read_yard("first a b; second x y;" + "".join(told))
                assert_same(self, found, (SQUARE, LANES, (1, 2, 3, 4)))

    def test_lanes_come_in_order(self):
        found = read_yard("first b a; second y x; track a - y;")
        assert_same(self, found, ((2, 2, ((1, 0),)), (("b", "a"), ("y", "x")), (0,)))

    def test_prices(self):
        for price in (0, 1, 9, 10, 99, 100, 998, 999):
            found = read_yard("first a; second x; track a - x price %d;" % price)
            assert_same(self, found, ((1, 1, ((0, 0),)), (("a",), ("x",)), (price,)))

    def test_no_tracks(self):
        assert_same(self, read_yard("first a;second b;"), (BARE, (("a",), ("b",)), ()))
        assert_same(self, read_yard(text=" first  a ; second  b ; "), (BARE, (("a",), ("b",)), ()))

    def test_twelve_lanes_and_one_more(self):
        assert_same(self, read_yard(TWELVE), ((12, 12, ()), FULL_LANES, ()))
        for word, error in (("more", TooMany), ("f3", TooMany), ("f0", TooMany), ("s2", TooMany), ("in", BadText)):
            for sort in ("; second", ";"):
                at = TWELVE.index(sort) if sort == "; second" else len(TWELVE) - 1
                text, place = marked(TWELVE[:at] + "^" + word + " " + TWELVE[at:])
                assert_refused(self, error, place, read_yard, text)
        text, place = marked("first a ; second x ^x " + " ".join(FULL_LANES[1]) + ";")
        assert_refused(self, Twice, place, read_yard, text)

    def test_sixty_tracks_and_one_more(self):
        assert_same(self, read_yard(TWELVE + "".join(SIXTY)), (FULL, FULL_LANES, (0,) * 60))
        assert_same(self, read_yard(TWELVE + "".join(SIXTY[::-1])), (FULL, FULL_LANES, (0,) * 60))
        for row, error in (
            ("track ^f5 - s0 ;", TooMany), ("track ^f0 - s0 ;", TooMany), ("track ^s0 - f0 ;", TooMany),
            ("track ^none - s0 ;", BadText), ("track ^q ; x", TooMany), ("track ^;", BadText), ("^tracks", BadText),
        ):
            text, place = marked(TWELVE + "".join(SIXTY) + " " + row)
            assert_refused(self, error, place, read_yard, text)
        text, place = marked(TWELVE + "".join(SIXTY[:59]) + " track f0 - ^s0 ;")
        assert_refused(self, Twice, place, read_yard, text)

    def test_names_of_twelve_signs_and_kept_words(self):
        found = read_yard("first abcdefghijkl; second abcdefghijkm;")
        assert_same(self, found, (BARE, (("abcdefghijkl",), ("abcdefghijkm",)), ()))
        for word in KEPT:
            assert_refused(self, BadText, 6, read_yard, "first %s ; second x ;" % word)
            assert_refused(self, BadText, 17, read_yard, "first a ; second %s ;" % word)
            assert_refused(self, BadText, 27, read_yard, "first a ; second x ; track %s - x ;" % word)
            assert_refused(self, BadText, 31, read_yard, "first a ; second x ; track a - %s ;" % word)
            longer = word + "s" if word + "s" not in KEPT else word + "z"
            assert_same(self, read_yard("first %s; second x;" % longer), (BARE, ((longer,), ("x",)), ()))


class PrintYardTest(unittest.TestCase):

    def test_ordinary_yards(self):
        text = "first a b; second x y; track a - x price 5; track a - y price 1; track b - x; track b - y price 999;"
        assert_same(self, print_yard(NAMED), text)
        assert_same(self, print_yard(named=(BARE, (("a",), ("b",)), ())), "first a; second b;")
        assert_same(self, print_yard(((1, 1, ((0, 0),)), (("a",), ("b",)), (0,))), "first a; second b; track a - b;")

    def test_reading_gives_back_what_was_printed(self):
        dice = dice_of(112)
        drawn = [some_named(dice, dice.choice((2, 4, 12))) for _ in range(300)]
        for named in list(GOOD_NAMED) + drawn:
            text = print_yard(named)
            found = read_yard(text)
            assert_same(self, found, named)
            assert_same(self, made_named(found), named)
            assert_same(self, read_yard(blanked(dice, split(text))), named)
            assert_same(self, print_yard(read_yard(blanked(dice, split(text)))), text)

    def test_one_blank_between_words_and_none_ahead_of_a_semicolon(self):
        dice = dice_of(113)
        for _ in range(50):
            text = print_yard(some_named(dice))
            self.assertEqual(text, " ".join(split(text)).replace(" ;", ";"))
            self.assertNotIn("price 0", text)

    def test_what_is_read_is_a_named_yard(self):
        for text in (TWELVE, TWELVE + "".join(SIXTY[::2]), "first a;second b;"):
            assert_same(self, is_named(read_yard(text)), True)

    def test_things_that_are_no_named_yards(self):
        for thing in (None, True, 0, "", "first a;", (), NAMED[:2], NAMED + (0,), nest(20)) + LISTS:
            assert_refused(self, BadNamed, -1, print_yard, thing)
        for thing, what in BAD_YARDS:
            assert_refused(self, BadYard, what, print_yard, (thing, LANES, (0,) * 4))
        for names, what in BAD_LANE_NAMES:
            assert_refused(self, BadNamed, what, print_yard, (SQUARE, names, (0,) * 4))
        for prices, what in BAD_PRICES:
            assert_refused(self, BadPrices, what, print_yard, (SQUARE, LANES, prices))

    def test_the_longest_yard(self):
        names = tuple("lane%08d" % at for at in range(24))
        named = (FULL, (names[:12], names[12:]), (999,) * 60)
        assert_same(self, read_yard(print_yard(named)), named)
        named = (complete(5, 12), (names[:5], names[12:]), tuple(range(60)))
        assert_same(self, read_yard(print_yard(named)), named)


if __name__ == "__main__":
    unittest.main()
