"""The desk and its methods: points [12] to [12.2]."""

import unittest

from trackworth.desk import Desk
from trackworth.errors import (
    BadName, BadNamed, BadNames, BadPrices, BadRow, BadTrack, BadYard, NothingToRedo, NothingToUndo, NotShut, NoTrain,
    TooMany, Twice,
)
from tests.deskmodel import Person
from tests.grammar import KEPT, Fault
from tests.support import BARE, FULL, LISTS, SQUARE, assert_refused, assert_same, dice_of, nest
from tests.test_names import BAD_LANE_NAMES, FULL_LANES, GOOD_NAMED, LANES, NAMED
from tests.test_prices import BAD_PRICES
from tests.test_readtrain import MANY
from tests.test_rows import BAD_ROWS, LONG
from tests.test_words import BAD_NAMES
from tests.test_yards import BAD_YARDS

EVERY = (0, 1, 2, 3)
NO_NAMES = (None, True, False, 0, 7, (), ("ann",), [], ["ann"], nest(19)) + LISTS + BAD_NAMES + tuple(KEPT)
NO_TRACKS = (-1, 4, 60, 10 ** 30, True, False, None, "0", "", "ann", (), (0,), [], [0])

FULL_NAMED = (FULL, FULL_LANES, (0,) * 60)


def told(desk):
    """All that a desk of the yard SQUARE tells of its tracks."""
    return (desk.pick(), tuple(desk.hands_of(t) for t in EVERY))


def at_work():
    """A desk at which hands have something to undo and to redo, and trains are kept."""
    desk = Desk(NAMED)
    desk.shut("ann", 0)
    desk.shut("ann", 1)
    desk.shut("bob", 1)
    desk.undo("ann")
    desk.put("t", (1, 0), ("r", "s"))
    return desk


def unwound(desk):
    """All that a desk tells, then what the undos and redos of its hands lead to, and its trains."""
    found = [told(desk), tuple(desk.row("check %s r by a - x; s by b - y" % word) for word in "tuv")]
    for hand in ("ann", "bob", "cid"):
        for word in ("redo",) * 3 + ("undo",) * 5 + ("redo",) * 5:
            found.append((desk.row(hand + " " + word), told(desk)))
    return found


class DeskTest(unittest.TestCase):

    def test_a_new_desk_has_nothing_shut_and_no_trains(self):
        for named in GOOD_NAMED:
            desk = Desk(named)
            tracks = tuple(range(len(named[0][2])))
            assert_same(self, desk.pick(), tracks)
            for t in tracks:
                assert_same(self, desk.hands_of(t), ())
            assert_refused(self, NoTrain, "t", desk.drop, "t")
        assert_same(self, Desk(named=NAMED).pick(), EVERY)

    def test_things_that_are_no_named_yards(self):
        for thing in (None, True, 0, "", "first a;", (), NAMED[:2], NAMED + (0,), nest(20)) + LISTS:
            assert_refused(self, BadNamed, -1, Desk, thing)
        for thing, what in BAD_YARDS:
            assert_refused(self, BadYard, what, Desk, (thing, LANES, (0,) * 4))
        for names, what in BAD_LANE_NAMES:
            assert_refused(self, BadNamed, what, Desk, (SQUARE, names, (0,) * 4))
        for prices, what in BAD_PRICES:
            assert_refused(self, BadPrices, what, Desk, (SQUARE, LANES, prices))

    def test_calls_that_return_nothing(self):
        desk = Desk(NAMED)
        for found in (
            desk.shut("ann", 0), desk.free("ann", 0), desk.undo("ann"), desk.redo("ann"), desk.put("t", (), ()),
            desk.drop("t"),
        ):
            assert_same(self, found, None)

    def test_arguments_by_name(self):
        desk = Desk(NAMED)
        desk.shut(hand="ann", t=3)
        desk.free(hand="ann", t=3)
        desk.undo(hand="ann")
        desk.redo(hand="ann")
        desk.put(word="t", row=(1, 0), wagons=("r", "s"))
        desk.drop(word="t")
        assert_same(self, desk.hands_of(t=3), ())
        assert_same(self, desk.row(text="worth"), "3")

    def test_two_desks_are_two(self):
        one, two = Desk(NAMED), Desk(NAMED)
        one.shut("ann", 0)
        one.put("t", (), ())
        assert_same(self, two.pick(), EVERY)
        assert_refused(self, NothingToUndo, 0, two.undo, "ann")
        assert_refused(self, NoTrain, "t", two.drop, "t")

    def test_what_is_handed_out_is_not_changed_later(self):
        desk = Desk(NAMED)
        desk.shut("bob", 2)
        pick, hands = desk.pick(), desk.hands_of(2)
        desk.shut("ann", 2)
        desk.shut("ann", 1)
        desk.undo("bob")
        assert_same(self, (pick, hands), ((0, 1, 3), ("bob",)))


class HandsTest(unittest.TestCase):

    def test_shut_and_free(self):
        desk = Desk(NAMED)
        desk.shut("ann", 2)
        assert_same(self, told(desk), ((0, 1, 3), ((), (), ("ann",), ())))
        desk.shut("ann", 0)
        assert_same(self, told(desk), ((1, 3), (("ann",), (), ("ann",), ())))
        desk.free("ann", 2)
        assert_same(self, told(desk), ((1, 2, 3), (("ann",), (), (), ())))

    def test_all_tracks(self):
        desk = Desk(FULL_NAMED)
        for t in range(60):
            desk.shut("ann", t)
            assert_same(self, desk.pick(), tuple(range(t + 1, 60)))
        for t in range(60):
            desk.free("ann", t)
            assert_same(self, desk.pick(), tuple(range(t + 1)))

    def test_one_track_shut_by_several_hands(self):
        desk = Desk(NAMED)
        for hand in ("cid", "ann", "a9", "bob", "a"):
            desk.shut(hand, 1)
        assert_same(self, desk.hands_of(1), ("a", "a9", "ann", "bob", "cid"))
        for hand in ("ann", "cid", "a", "a9"):
            desk.free(hand, 1)
            assert_same(self, desk.pick(), (0, 2, 3))
            assert_refused(self, NotShut, 0, desk.free, hand, 1)
        desk.free("bob", 1)
        assert_same(self, told(desk), (EVERY, ((), (), (), ())))

    def test_a_second_time(self):
        desk = Desk(NAMED)
        assert_refused(self, NotShut, 0, desk.free, "ann", 1)
        desk.shut("ann", 1)
        assert_refused(self, Twice, 0, desk.shut, "ann", 1)
        assert_refused(self, NotShut, 0, desk.free, "bob", 1)
        assert_refused(self, NotShut, 0, desk.free, "ann", 0)
        desk.free("ann", 1)
        assert_refused(self, NotShut, 0, desk.free, "ann", 1)
        desk.shut("ann", 1)

    def test_undo_and_redo(self):
        desk = Desk(NAMED)
        desk.shut("ann", 1)
        desk.shut("ann", 2)
        desk.free("ann", 1)
        stands = [EVERY, (0, 2, 3), (0, 3), (0, 1, 3)]
        for pick in stands[-2::-1]:
            desk.undo("ann")
            assert_same(self, desk.pick(), pick)
        assert_refused(self, NothingToUndo, 0, desk.undo, "ann")
        for pick in stands[1:]:
            desk.redo("ann")
            assert_same(self, desk.pick(), pick)
        assert_refused(self, NothingToRedo, 0, desk.redo, "ann")
        desk.undo("ann")
        assert_same(self, desk.pick(), (0, 3))

    def test_a_shut_or_a_free_leaves_nothing_to_redo(self):
        for word in ("shut", "free"):
            desk = Desk(NAMED)
            desk.shut("ann", 1)
            desk.shut("ann", 2)
            desk.undo("ann")
            getattr(desk, word)("ann", 3 if word == "shut" else 1)
            assert_refused(self, NothingToRedo, 0, desk.redo, "ann")
            desk.undo("ann")
            assert_same(self, desk.pick(), (0, 2, 3))
            desk.redo("ann")
            desk.undo("ann")
            desk.undo("ann")
            assert_same(self, desk.pick(), EVERY)
            assert_refused(self, NothingToUndo, 0, desk.undo, "ann")

    def test_a_refused_shut_or_free_leaves_what_can_be_done_again(self):
        desk = Desk(NAMED)
        desk.shut("ann", 1)
        desk.shut("ann", 2)
        desk.undo("ann")
        assert_refused(self, Twice, 0, desk.shut, "ann", 1)
        assert_refused(self, NotShut, 0, desk.free, "ann", 2)
        assert_refused(self, BadTrack, 4, desk.shut, "ann", 4)
        desk.redo("ann")
        assert_same(self, desk.pick(), (0, 3))

    def test_hands_undo_what_they_did_themselves(self):
        desk = Desk(NAMED)
        desk.shut("ann", 1)
        desk.shut("bob", 1)
        desk.shut("bob", 2)
        desk.shut("ann", 3)
        desk.undo("bob")
        assert_same(self, told(desk), ((0, 2), ((), ("ann", "bob"), (), ("ann",))))
        desk.undo("ann")
        desk.undo("ann")
        assert_same(self, told(desk), ((0, 2, 3), ((), ("bob",), (), ())))
        assert_refused(self, NothingToUndo, 0, desk.undo, "ann")
        assert_refused(self, NothingToUndo, 0, desk.undo, "cid")
        assert_refused(self, NothingToRedo, 0, desk.redo, "cid")
        desk.redo("bob")
        desk.redo("ann")
        assert_same(self, told(desk), ((0, 3), ((), ("ann", "bob"), ("bob",), ())))
        assert_refused(self, NothingToRedo, 0, desk.redo, "bob")

    def test_a_hundred_can_be_taken_back_and_no_more(self):
        for many in (99, 100, 101, 102, 250):
            desk = Desk(NAMED)
            for at in range(many):
                (desk.shut if at % 2 == 0 else desk.free)("ann", 1)
            desk.shut("bob", 2)
            for _ in range(min(many, 100)):
                desk.undo("ann")
            assert_refused(self, NothingToUndo, 0, desk.undo, "ann")
            left = max(many - 100, 0)
            assert_same(self, desk.hands_of(1), ("ann",) * (left % 2))
            for _ in range(min(many, 100)):
                desk.redo("ann")
            assert_refused(self, NothingToRedo, 0, desk.redo, "ann")
            assert_same(self, desk.hands_of(1), ("ann",) * (many % 2))
            desk.undo("bob")
            assert_same(self, desk.hands_of(2), ())

    def test_what_was_taken_back_is_not_among_the_hundred(self):
        desk = Desk(NAMED)
        for at in range(100):
            (desk.shut if at % 2 == 0 else desk.free)("ann", 1)
        for _ in range(40):
            desk.undo("ann")
        desk.shut("ann", 3)
        # Sixty-one stand; the thirty-nine further ones push none of them out.
        for at in range(39):
            (desk.shut if at % 2 == 0 else desk.free)("ann", 2)
        for _ in range(100):
            desk.undo("ann")
        assert_refused(self, NothingToUndo, 0, desk.undo, "ann")
        assert_same(self, desk.pick(), EVERY)

    def test_drawn_hands_by_method(self):
        dice = dice_of(117)
        for _ in range(40):
            desk, people = Desk(NAMED), {hand: Person() for hand in ("ann", "bob", "cid")}
            for _ in range(dice.choice((30, 300))):
                hand, t = dice.choice(sorted(people)), dice.choice(EVERY)
                word = dice.choice(("shut", "free", "undo", "redo"))
                arguments = (hand,) if word in ("undo", "redo") else (hand, t)
                try:
                    person = people[hand]
                    person.do(word, t) if len(arguments) == 2 else getattr(person, word)()
                except Fault as fault:
                    with self.assertRaises(ValueError) as caught:
                        getattr(desk, word)(*arguments)
                    self.assertEqual((type(caught.exception).__name__, caught.exception.what), fault.args)
                else:
                    getattr(desk, word)(*arguments)
                hands = tuple(tuple(sorted(h for h in people if t in people[h].shut())) for t in EVERY)
                assert_same(self, told(desk), (tuple(t for t in EVERY if not hands[t]), hands))


class HandsRefusalTest(unittest.TestCase):

    def test_hands_come_first(self):
        desk = at_work()
        for hand in NO_NAMES:
            for t in (0, 3) + NO_TRACKS:
                assert_refused(self, BadName, hand, desk.shut, hand, t)
                assert_refused(self, BadName, hand, desk.free, hand, t)
            assert_refused(self, BadName, hand, desk.undo, hand)
            assert_refused(self, BadName, hand, desk.redo, hand)
        self.assertEqual(unwound(desk), unwound(at_work()))

    def test_then_tracks(self):
        desk = at_work()
        for t in NO_TRACKS:
            for hand in ("ann", "bob", "cid"):
                assert_refused(self, BadTrack, t, desk.shut, hand, t)
                assert_refused(self, BadTrack, t, desk.free, hand, t)
            assert_refused(self, BadTrack, t, desk.hands_of, t)
        assert_refused(self, BadTrack, 0, Desk((BARE, (("a",), ("b",)), ())).shut, "ann", 0)
        assert_refused(self, BadTrack, 0, Desk((BARE, (("a",), ("b",)), ())).hands_of, 0)
        assert_refused(self, BadTrack, 60, Desk(FULL_NAMED).shut, "ann", 60)
        self.assertEqual(unwound(desk), unwound(at_work()))

    def test_then_what_the_hand_has_shut(self):
        desk = at_work()
        assert_refused(self, Twice, 0, desk.shut, "ann", 0)
        assert_refused(self, Twice, 0, desk.shut, "bob", 1)
        assert_refused(self, NotShut, 0, desk.free, "ann", 1)
        assert_refused(self, NotShut, 0, desk.free, "bob", 0)
        assert_refused(self, NotShut, 0, desk.free, "cid", 0)
        assert_refused(self, NothingToUndo, 0, desk.undo, "cid")
        assert_refused(self, NothingToRedo, 0, desk.redo, "cid")
        assert_refused(self, NothingToRedo, 0, desk.redo, "bob")
        self.assertEqual(unwound(desk), unwound(at_work()))


class TrainsTest(unittest.TestCase):

    def test_put_replace_and_drop(self):
        desk = Desk(NAMED)
        desk.put("t", (1, 0), ("r", "s"))
        assert_same(self, desk.row("plan t"), "s by a - x; r by a - y")
        desk.put("t", (0,), ("q",))
        assert_same(self, desk.row("plan t"), "q by a - x")
        desk.put("u", (), ())
        assert_same(self, desk.row("plan u"), "")
        desk.drop("t")
        assert_same(self, desk.row("plan t"), "refused NoTrain")
        assert_refused(self, NoTrain, "t", desk.drop, "t")
        desk.drop("u")
        assert_refused(self, NoTrain, "u", desk.drop, "u")
        desk.put("t", LONG, MANY)
        assert_same(self, desk.row("check t " + "; ".join(name + " by b - y" for name in MANY)), "home")

    def test_forty_trains_and_one_more(self):
        desk = Desk(NAMED)
        for at in range(40):
            desk.put("t%d" % at, (0,), ("w%d" % at,))
        assert_refused(self, TooMany, 41, desk.put, "more", (0,), ("q",))
        assert_same(self, desk.row("put more train; home;"), "refused TooMany")
        assert_same(self, desk.row("plan more"), "refused NoTrain")
        for at in range(40):
            assert_same(self, desk.row("plan t%d" % at), "w%d by a - x" % at)
        # One that is kept is replaced.
        desk.put("t7", (0,), ("new",))
        assert_same(self, desk.row("plan t7"), "new by a - x")
        assert_same(self, desk.row("put t39 train; home;"), "ok")
        desk.drop("t0")
        desk.put("more", (0,), ("q",))
        assert_same(self, desk.row("plan more"), "q by a - x")
        assert_refused(self, TooMany, 41, desk.put, "t0", (0,), ("q",))

    def test_words_come_first(self):
        desk = at_work()
        for word in NO_NAMES:
            assert_refused(self, BadName, word, desk.put, word, None, None)
            assert_refused(self, BadName, word, desk.put, word, (1, 0), ("r", "s"))
        self.assertEqual(unwound(desk), unwound(at_work()))

    def test_then_rows_and_then_names(self):
        desk = at_work()
        for thing, what in BAD_ROWS:
            assert_refused(self, BadRow, what, desk.put, "t", thing, None)
            assert_refused(self, BadRow, what, desk.put, "u", thing, ("r", "s"))
        for wagons in (None, True, 0, "rs", (), ("r",), ("r", "r"), ("r", "s", "t"), ("r", "S"), ("r", 0), ("by", "r"),
                       ("r", None), ["r", "s"], ("r", ["s"])) + LISTS:
            assert_refused(self, BadNames, 0, desk.put, "t", (1, 0), wagons)
            assert_refused(self, BadNames, 0, desk.put, "u", (1, 0), wagons)
        self.assertEqual(unwound(desk), unwound(at_work()))

    def test_then_too_many(self):
        desk = Desk(NAMED)
        for at in range(40):
            desk.put("t%d" % at, (), ())
        assert_refused(self, BadName, "T", desk.put, "T", (0, 0), ("q",))
        assert_refused(self, BadRow, 1, desk.put, "more", (0, 0), ("q",))
        assert_refused(self, BadNames, 0, desk.put, "more", (0,), ())
        assert_refused(self, TooMany, 41, desk.put, "more", (), ())

    def test_words_under_which_nothing_is_kept(self):
        desk = at_work()
        for word in NO_NAMES + ("u", "tt", "ann"):
            assert_refused(self, NoTrain, word, desk.drop, word)
        self.assertEqual(unwound(desk), unwound(at_work()))

    def test_trains_and_hands_are_apart(self):
        desk = Desk(NAMED)
        desk.put("ann", (0,), ("ann",))
        assert_refused(self, NothingToUndo, 0, desk.undo, "ann")
        desk.shut("ann", 0)
        desk.drop("ann")
        desk.undo("ann")
        assert_same(self, desk.row("plan ann"), "refused NoTrain")


if __name__ == "__main__":
    unittest.main()
