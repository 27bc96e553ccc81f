"""Trains as texts: points [11.6], [11.9] and [11.10]."""

import unittest

from trackworth.errors import BadNames, BadRow, BadText, NoName, TooMany, Twice
from trackworth.printtrain import print_train
from trackworth.readtrain import read_train
from trackworth.rows import is_row
from tests.drawn import blanked, marked, some_train, split
from tests.grammar import KEPT
from tests.support import LISTS, assert_refused, assert_same, dice_of, nest
from tests.test_rows import BAD_ROWS, FALLEN, LONG
from tests.test_words import BAD_NAMES, GOOD_NAMES

MANY = tuple("wagon%d" % wagon for wagon in range(400))

# Each with the class; the place is marked.
FAULTS = (
    ("^", BadText), ("  ^", BadText), ("^home ; train ;", BadText), ("^a b ; home ;", BadText), ("^; home ;", BadText),
    ("train^", BadText), ("train a ^", BadText), ("train ^- ; home ;", BadText), ("train ^train ; home ;", BadText),
    ("train ^7 ; home ;", BadText), ("train a ^B ; home ;", BadText), ("train a ^home a ;", BadText),
    ("train a^- b ; home a ;", BadText), ("train a ; ^", BadText), ("train a ; ^a ;", BadText), ("train ; ^;", BadText),
    ("train a ; ^train a ;", BadText), ("train a ; home^", BadText), ("train a ; home a ^", BadText),
    ("train a ; home a ^- ;", BadText), ("train a ; home ^0 ;", BadText), ("train a ; home ^by ;", BadText),
    ("train a ; home a ; ^a", BadText), ("train ; home ; ^;", BadText), ("train ; home ; ^train ; home ;", BadText),
    ("train a ^a ; home a ;", Twice), ("train a b c ^a -", Twice), ("train r s t ^t ; home ;", Twice),
    ("train a ; home ^b ;", NoName), ("train ; home ^b ;", NoName), ("train a b ; home a ^c b ;", NoName),
    ("train a b ; home ^c c ;", NoName), ("train a b ; home a ^a ;", Twice), ("train a b ; home a b ^a ;", Twice),
    ("train a b ; home b ^b a", Twice), ("train a ; home ^; a", BadText), ("train a b ; home b ^; home", BadText),
    ("train a b ; home a ^; ", BadText), ("train a b c ; home c b ^;", BadText), ("train a b ; home a ^", BadText),
    ("train a b ; home a b ^", BadText),
)


class ReadTrainTest(unittest.TestCase):

    def test_the_examples(self):
        found = ((2, 0, 1), ("blue", "green", "red"))
        assert_same(self, read_train("train red blue green; home blue green red;"), found)
        assert_refused(self, BadText, 19, read_train, "train a b ; home a ;")

    def test_each_fault_at_its_place(self):
        for told, error in FAULTS:
            text, place = marked(told)
            assert_refused(self, error, place, read_train, text)
            assert_refused(self, error, place + 5, read_train, "     " + text)

    def test_edges(self):
        assert_same(self, read_train("train;home;"), ((), ()))
        assert_same(self, read_train(text=" train  ;  home ; "), ((), ()))
        assert_same(self, read_train("train a;home a;"), ((0,), ("a",)))
        assert_same(self, read_train("train a b;home a b;"), ((0, 1), ("a", "b")))
        assert_same(self, read_train("train a b;home b a;"), ((1, 0), ("b", "a")))

    def test_four_hundred_wagons_and_one_more(self):
        names = " ".join(MANY)
        assert_same(self, read_train("train %s; home %s;" % (names, names)), (LONG, MANY))
        back = " ".join(MANY[::-1])
        assert_same(self, read_train("train %s; home %s;" % (names, back)), (FALLEN, MANY[::-1]))
        for word, error in (("more", TooMany), ("wagon0", TooMany), ("over", BadText), ("-", BadText)):
            text, place = marked("train %s ^%s ; home ;" % (names, word))
            assert_refused(self, error, place, read_train, text)
        for word, error in (("more", NoName), ("wagon399", Twice), ("over", BadText)):
            text, place = marked("train %s ; home %s ^%s ;" % (names, names, word))
            assert_refused(self, error, place, read_train, text)
        text, place = marked("train %s ; home %s ^;" % (names, " ".join(MANY[1:])))
        assert_refused(self, BadText, place, read_train, text)
        text, place = marked("train %s ^wagon398 wagon399 ; home ;" % " ".join(MANY[:399]))
        assert_refused(self, Twice, place, read_train, text)

    def test_names_and_kept_words(self):
        for name in GOOD_NAMES:
            assert_same(self, read_train("train %s; home %s;" % (name, name)), ((0,), (name,)))
        for word in KEPT + ["abcdefghijklm", "A", "9", "a_b"]:
            if word != "home":
                assert_refused(self, BadText, 6, read_train, "train %s ; home ;" % word)
            assert_refused(self, BadText, 15, read_train, "train a ; home %s ;" % word)


class PrintTrainTest(unittest.TestCase):

    def test_ordinary_trains(self):
        text = "train red blue green; home blue green red;"
        assert_same(self, print_train((2, 0, 1), ("blue", "green", "red")), text)
        assert_same(self, print_train(row=(0,), wagons=("a",)), "train a; home a;")
        assert_same(self, print_train((), ()), "train; home;")

    def test_reading_gives_back_what_was_printed(self):
        dice = dice_of(114)
        drawn = [some_train(dice, dice.choice((2, 5, 30))) for _ in range(300)]
        for row, wagons in drawn + [(LONG, MANY), (FALLEN, MANY), ((), ())]:
            text = print_train(row, wagons)
            assert_same(self, read_train(text), (row, wagons))
            assert_same(self, read_train(blanked(dice, split(text))), (row, wagons))
            self.assertEqual(text, " ".join(split(text)).replace(" ;", ";"))
            assert_same(self, is_row(read_train(text)[0]), True)

    def test_the_longest_train(self):
        wagons = tuple("w%011d" % wagon for wagon in range(400))
        assert_same(self, read_train(print_train(FALLEN, wagons)), (FALLEN, wagons))

    def test_rows_come_first(self):
        for thing, what in BAD_ROWS:
            assert_refused(self, BadRow, what, print_train, thing, None)
            assert_refused(self, BadRow, what, print_train, thing, ("a", "b"))

    def test_then_names(self):
        for wagons in (None, True, 0, "", "ab", (), ("a",), ("a", "b", "c"), ("a", "a"), ("a", "A"), ("a", 1),
                       ("a", None), ("a", ("b",)), ("a", ["b"]), ["a", "b"], ("home", "b"), ("a", "counts"),
                       (True, False), nest(19), ("a", "abcdefghijklm")) + LISTS:
            assert_refused(self, BadNames, 0, print_train, (1, 0), wagons)
        for name in BAD_NAMES:
            assert_refused(self, BadNames, 0, print_train, (0,), (name,))
        assert_refused(self, BadNames, 0, print_train, (), ("a",))
        assert_refused(self, BadNames, 0, print_train, (), None)
        assert_refused(self, BadNames, 0, print_train, LONG, MANY[:399])
        assert_refused(self, BadNames, 0, print_train, LONG, MANY[:399] + ("wagon0",))


if __name__ == "__main__":
    unittest.main()
