"""Named yards: point [11.1]."""

import unittest

from trackworth.errors import BadNamed, BadPrices, BadYard
from trackworth.names import is_named, made_named
from tests.grammar import KEPT
from tests.support import BARE, FULL, LISTS, ODD_VALUES, SQUARE, assert_judges, assert_refused, assert_same, nest
from tests.test_prices import BAD_PRICES
from tests.test_words import BAD_NAMES, GOOD_NAMES
from tests.test_yards import BAD_YARDS

LANES = (("a", "b"), ("x", "y"))
NAMED = (SQUARE, LANES, (5, 1, 0, 999))
FULL_LANES = (tuple("f%d" % a for a in range(12)), tuple("s%d" % b for b in range(12)))

GOOD_NAMED = (
    NAMED, (BARE, (("a",), ("b",)), ()), (FULL, FULL_LANES, (999,) * 60), (FULL, FULL_LANES, tuple(range(60))),
    ((2, 1, ((0, 0), (1, 0))), (("a", "b"), ("x",)), (0, 30)),
    ((1, 12, ((0, 11),)), (("abcdefghijkl",), FULL_LANES[1]), (0,)),
    ((12, 1, ()), (FULL_LANES[0], ("abcdefghijkm",)), ()),
)

# No names of the lanes of SQUARE, each with what made_named says of it.
BAD_LANE_NAMES = (
    (None, 0), (True, 0), (0, 0), (2, 0), ("", 0), ("ab", 0), ([], 0), ((), 0), ((("a", "b"),), 0), (LANES + ((),), 0),
    ([("a", "b"), ("x", "y")], 0), (nest(18), 0), ((None, ("x", "y")), 0), (("ab", ("x", "y")), 0),
    ((["a", "b"], ("x", "y")), 0), (((), ("x", "y")), 0), ((("a",), ("x", "y")), 0), ((("a", "b", "c"), ("x", "y")), 0),
    ((("a", "a"), ("x", "y")), 0), ((("a", "A"), ("x", "y")), 0), ((("a", 0), ("x", "y")), 0),
    ((("a", True), ("x", "y")), 0), ((("a", None), ("x", "y")), 0), ((("a", ("b",)), ("x", "y")), 0),
    ((("a", ["b"]), ("x", "y")), 0), ((("first", "b"), ("x", "y")), 0), ((("a", "counts"), ("x", "y")), 0),
    ((("a", ""), ("x", "y")), 0), ((("a", "abcdefghijklm"), ("x", "y")), 0), ((("a", "9"), ("x", "y")), 0),
    ((("a", "a"), None), 0), ((("a", "b"), None), 1), ((("a", "b"), "xy"), 1), ((("a", "b"), ["x", "y"]), 1),
    ((("a", "b"), ()), 1), ((("a", "b"), ("x",)), 1), ((("a", "b"), ("x", "y", "z")), 1), ((("a", "b"), ("x", "x")), 1),
    ((("a", "b"), ("a", "y")), 1), ((("a", "b"), ("x", "b")), 1), ((("a", "b"), ("b", "a")), 1),
    ((("a", "b"), ("x", "Y")), 1), ((("a", "b"), ("x", 7)), 1), ((("a", "b"), ("x", False)), 1),
    ((("a", "b"), ("x", None)), 1), ((("a", "b"), ("x", ())), 1), ((("a", "b"), ("x", ["y"])), 1),
    ((("a", "b"), ("track", "y")), 1), ((("a", "b"), ("x", "in")), 1), ((("a", "b"), (nest(16), "y")), 1),
)


class MadeNamedTest(unittest.TestCase):

    def test_named_yards_are_returned(self):
        for named in GOOD_NAMED:
            assert_same(self, made_named(named), named)
            assert_same(self, is_named(named), True)
        assert_same(self, made_named(thing=NAMED), NAMED)
        assert_same(self, is_named(thing=NAMED), True)

    def test_things_that_are_no_tuples_of_three(self):
        for thing in (None, True, False, 0, 3, "", "abc", (), (SQUARE,), (SQUARE, LANES), NAMED + (1,), NAMED + NAMED,
                      list(NAMED), [SQUARE, LANES, ()], nest(20)):
            assert_refused(self, BadNamed, -1, made_named, thing)
            assert_same(self, is_named(thing), False)

    def test_then_yards(self):
        for thing, what in BAD_YARDS:
            assert_refused(self, BadYard, what, made_named, (thing, None, None))
            assert_refused(self, BadYard, what, made_named, (thing, LANES, (1, 1, 1, 1)))
            assert_same(self, is_named((thing, LANES, (1, 1, 1, 1))), False)

    def test_then_names(self):
        for names, what in BAD_LANE_NAMES:
            assert_refused(self, BadNamed, what, made_named, (SQUARE, names, None))
            assert_refused(self, BadNamed, what, made_named, (SQUARE, names, (5, 1, 0, 999)))
            assert_same(self, is_named((SQUARE, names, (5, 1, 0, 999))), False)

    def test_then_prices(self):
        for prices, what in BAD_PRICES:
            assert_refused(self, BadPrices, what, made_named, (SQUARE, LANES, prices))
            assert_same(self, is_named((SQUARE, LANES, prices)), False)

    def test_each_name_in_each_place(self):
        for name in GOOD_NAMES:
            for at in range(4):
                names = ["p", "q", "x", "y"]
                names[at] = name + "" if name not in names else "n"
                lanes = (tuple(names[:2]), tuple(names[2:]))
                assert_same(self, made_named((SQUARE, lanes, (0,) * 4)), (SQUARE, lanes, (0,) * 4))
        for name in list(BAD_NAMES) + KEPT:
            for at in range(4):
                names = ["p", "q", "x", "y"]
                names[at] = name
                lanes = (tuple(names[:2]), tuple(names[2:]))
                assert_refused(self, BadNamed, at // 2, made_named, (SQUARE, lanes, (0,) * 4))

    def test_each_two_equal_names(self):
        lanes = FULL_LANES[0] + FULL_LANES[1]
        for at in range(24):
            for other in range(at):
                names = lanes[:at] + (lanes[other],) + lanes[at + 1:]
                thing = (FULL, (names[:12], names[12:]), (1,) * 60)
                assert_refused(self, BadNamed, 0 if at < 12 else 1, made_named, thing)

    def test_as_many_names_as_lanes(self):
        for firsts in range(1, 13):
            for seconds in range(1, 13):
                yard = (firsts, seconds, ())
                names = (FULL_LANES[0][:firsts], FULL_LANES[1][:seconds])
                assert_same(self, made_named((yard, names, ())), (yard, names, ()))
                less = (names[0][:-1], names[1])
                assert_refused(self, BadNamed, 0, made_named, (yard, less, ()))
                more = (names[0], names[1] + ("more",))
                assert_refused(self, BadNamed, 1, made_named, (yard, more, ()))

    def test_it_only_judges(self):
        assert_judges(self, is_named, [(NAMED,), (GOOD_NAMED[1],)])
        for value in ODD_VALUES + LISTS:
            for at in range(3):
                thing = NAMED[:at] + (value,) + NAMED[at + 1:]
                self.assertIn(repr(is_named(thing)), ("True", "False"))
                thing = (SQUARE, LANES[:at] + (value,) + LANES[at + 1:], NAMED[2])
                assert_same(self, is_named(thing), at == 0 and value == ("a", "b"))

    def test_what_is_returned_is_fresh(self):
        found = made_named(NAMED)
        self.assertIsNot(found, NAMED)
        for part, given in zip(found, NAMED):
            self.assertIsNot(part, given)


if __name__ == "__main__":
    unittest.main()
