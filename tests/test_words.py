"""Names: point [11]."""

import string
import unittest

from trackworth.words import is_name
from tests.grammar import KEPT
from tests.support import LISTS, ODD_VALUES, assert_judges, assert_same, nest

GOOD_NAMES = (
    "a", "z", "x9", "a0", "ann", "lane7", "abcdefghijkl", "a12345678901", "z00000000000", "r2d2", "aa", "i", "o",
    "true", "yes", "no", "ring", "fall", "many", "ok", "refused", "names", "row", "pick", "type", "lane",
)

BAD_NAMES = (
    "", " ", "a ", " a", "a b", "9", "9a", "0", "A", "Ann", "aB", "anN", "abcdefghijklm", "a123456789012", "_", "a_b",
    "-", "a-b", ";", "a;", "a.b", "a\n", "\na", "\t", "a\x00", "\u00e4", "a\u00e4", "\u0430", "a\u0661", "a\u00b2",
    "\u00df", "a\u0301", "a%", "{a}", "@", "[", "`a", "a`", "a:", "a/", "a" * 60001, "0a", "a" * 13,
)


class IsNameTest(unittest.TestCase):

    def test_names(self):
        for name in GOOD_NAMES:
            assert_same(self, is_name(name), True)
        assert_same(self, is_name(thing="a"), True)

    def test_texts_that_are_no_names(self):
        for text in BAD_NAMES:
            assert_same(self, is_name(text), False)

    def test_kept_words_and_those_with_a_sign_more_or_less(self):
        self.assertEqual(len(KEPT), 25)
        for word in KEPT:
            assert_same(self, is_name(word), False)
            for sign in "a0sz":
                longer = word + sign
                assert_same(self, is_name(longer), longer not in KEPT)
                assert_same(self, is_name(sign + word), sign != "0")
            assert_same(self, is_name(word[:-1]), word[:-1] not in KEPT)
            assert_same(self, is_name(word.upper()), False)
            assert_same(self, is_name(word.title()), False)
            assert_same(self, is_name(word + " "), False)

    def test_every_sign_in_front_and_behind(self):
        for code in range(256):
            sign = chr(code)
            assert_same(self, is_name(sign), sign in string.ascii_lowercase)
            assert_same(self, is_name("a" + sign), sign in string.ascii_lowercase + string.digits)
            assert_same(self, is_name("a" + sign + "b"), sign in string.ascii_lowercase + string.digits)

    def test_lengths(self):
        for many in range(1, 13):
            assert_same(self, is_name("q" * many), True)
            assert_same(self, is_name("q" + "7" * (many - 1)), True)
        for many in (0, 13, 14, 100):
            assert_same(self, is_name("q" * many), False)

    def test_things_that_are_no_texts(self):
        for thing in (None, True, False, 0, 1, 7, (), ("a",), ("a", "b"), (("a",),), nest(19), 10 ** 30) + LISTS:
            assert_same(self, is_name(thing), False)
        for thing in ODD_VALUES:
            assert_same(self, is_name(thing), thing in ("a", "ring") and isinstance(thing, str))

    def test_it_only_judges(self):
        assert_judges(self, is_name, [("a",)])


if __name__ == "__main__":
    unittest.main()
