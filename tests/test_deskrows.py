"""The rows of the desk: points [12.3] to [12.5]."""

import unittest

from trackworth.desk import Desk
from trackworth.printtrain import print_train
from trackworth.readyard import read_yard
from tests.deskmodel import DeskModel
from tests.drawn import POOL, Talk, blanked, some_named, split
from tests.grammar import KEPT
from tests.support import FULL, assert_same, complete, dice_of, nest
from tests.test_desk import FULL_NAMED, at_work, unwound
from tests.test_names import FULL_LANES, NAMED
from tests.test_plans import row_of_falls
from tests.test_readtrain import MANY
from tests.test_rows import FALLEN, LONG

YARD = "first a b; second x y; track a - x; track a - y; track b - x; track b - y;"
# A ring of four tracks, a track that is in no ring, and lanes without a track.
TAILED = read_yard(
    "first a b c d; second x y z; track a - x price 4; track a - y price 2; track b - x price 2; track b - y price 3;"
    "track c - y price 9;"
)

# Rows that are refused at the desk of at_work, each with the class.
REFUSED = (
    # The grammar: the words of each row, too few and too many of them.
    ("", "BadText"), ("   ", "BadText"), (";", "BadText"), ("-", "BadText"), ("7", "BadText"), ("Ann undo", "BadText"),
    ("shut a - x", "BadText"), ("ann", "BadText"), ("ann ann", "BadText"), ("ann plan", "BadText"),
    ("ann shut", "BadText"), ("ann shut a", "BadText"), ("ann shut a x", "BadText"), ("ann shut a -", "BadText"),
    ("ann shut - x", "BadText"), ("ann shut a - x ;", "BadText"), ("ann shut b - x b", "BadText"),
    ("ann shut 0", "BadText"), ("ann free", "BadText"), ("ann free a - x - y", "BadText"), ("ann undo ;", "BadText"),
    ("ann undo ann", "BadText"), ("cid undo undo", "BadText"), ("ann redo 1", "BadText"), ("bob redo a - x", "BadText"),
    ("undo", "BadText"), ("redo ann", "BadText"), ("free a - x", "BadText"), ("put", "BadText"), ("put t", "BadText"),
    ("put train ; home ;", "BadText"), ("put put train ; home ;", "BadText"), ("put 7 train ; home ;", "BadText"),
    ("put u train", "BadText"), ("put u train ;", "BadText"), ("put u train ; home", "BadText"),
    ("put u home ; train ;", "BadText"), ("put u train r ; home r ; r", "BadText"),
    ("put u train r s ; home r ;", "BadText"), ("put u train ; home ; ;", "BadText"), ("drop", "BadText"),
    ("drop drop", "BadText"), ("drop 7", "BadText"), ("drop t t", "BadText"), ("drop t ;", "BadText"),
    ("worth ;", "BadText"), ("worth t", "BadText"), ("worth 1", "BadText"), ("serves a - x", "BadText"),
    ("serves serves", "BadText"), ("plan", "BadText"), ("plan plan", "BadText"), ("plan t t", "BadText"),
    ("plan ;", "BadText"), ("moves", "BadText"), ("moves moves", "BadText"), ("moves t -", "BadText"),
    ("bad row", "BadText"), ("bad bad", "BadText"), ("check", "BadText"), ("check check", "BadText"),
    ("check t", "BadText"), ("check t ;", "BadText"), ("check t r", "BadText"), ("check t r by a - x", "BadText"),
    ("check t r by a - x ;", "BadText"), ("check t r by a - x ; s by a - x ;", "BadText"), ("cheapest", "BadText"),
    ("cheapest t", "BadText"), ("cheapest 01", "BadText"), ("cheapest 00000", "BadText"), ("cheapest - 1", "BadText"),
    ("cheapest 1 1", "BadText"), ("cheapest 1 ;", "BadText"), ("counts", "BadText"), ("counts a", "BadText"),
    ("counts a x", "BadText"), ("counts a - x ;", "BadText"), ("counts 0", "BadText"),
    ("counts a - x a - y", "BadText"), ("home", "BadText"), ("first a b ; second x ;", "BadText"),
    ("train r ; home r ;", "BadText"), ("in a", "BadText"), ("none", "BadText"), ("worth%", "BadText"),
    ("worth\n", "BadText"), ("worth\t", "BadText"), ("ann sh%ut", "BadText"), ("drop u %", "BadText"),
    # Names that are not there, each ahead of what stands behind it.
    ("ann shut c - x", "NoName"), ("ann shut x - a", "NoName"), ("ann free c - 7", "NoName"),
    ("cid shut c ;", "NoName"), ("ann shut a - z", "NoName"), ("ann free a - b ;", "NoName"),
    ("counts c - x", "NoName"), ("counts q 7", "NoName"), ("counts a - a a", "NoName"), ("check t q by", "NoName"),
    ("check t r by a - x ; q", "NoName"), ("check t r by c 7", "NoName"), ("check t r by a - b -", "NoName"),
    ("put u train r ; home s 7", "NoName"), ("drop u", "NoTrain"), ("drop u ;", "NoTrain"), ("drop u u", "NoTrain"),
    ("plan u", "NoTrain"), ("plan ann 7", "NoTrain"), ("moves u", "NoTrain"), ("moves r -", "NoTrain"),
    ("check u", "NoTrain"), ("check u q by c", "NoTrain"),
    # Things that are told a second time, or are too many.
    ("put u train r r", "Twice"), ("put u train r s ; home r r ; ;", "Twice"), ("put t train r r", "Twice"),
    ("check t r by a - x ; r", "Twice"), ("cheapest 10000", "BadNumber"), ("cheapest 10000 ;", "BadNumber"),
    ("cheapest " + "9" * 50000, "BadNumber"),
    # What the methods refuse, behind everything else.
    ("ann shut a - x", "Twice"), ("bob shut a - y", "Twice"), ("ann free a - y", "NotShut"),
    ("cid free a - x", "NotShut"), ("cid undo", "NothingToUndo"), ("cid redo", "NothingToRedo"),
    ("bob redo", "NothingToRedo"),
)


def questions(named, words):
    """Rows of all kinds about these trains that ask, and change nothing."""
    firsts, seconds = named[1]
    lanes = ["%s - %s" % (firsts[a], seconds[b]) for a, b in named[0][2]]
    found = ["worth", "serves", "bad"] + ["counts " + track for track in lanes]
    found += ["cheapest %d" % many for many in range(8)]
    for word in words:
        found += ["plan " + word, "moves " + word, "check " + word]
    return found


class AnswersTest(unittest.TestCase):

    def assert_answers(self, desk, rows):
        """The desk gives these answers, one after the other."""
        for row, answer in rows:
            assert_same(self, desk.row(row), answer)

    def test_the_example(self):
        self.assert_answers(Desk(read_yard(YARD)), (
            ("serves", "ring a - x; a - y; b - y; b - x"), ("worth", "3"), ("ann shut a - x", "ok"),
            ("ann shut a - x", "refused Twice"), ("serves", "yes"), ("put t train r s; home s r;", "ok"),
            ("plan t", "r by a - y; s by b - x"), ("moves t", "in a; in b; over b - x; out x; over a - y; out y"),
            ("check t r by b - x; s by b - x", "fall r s"), ("ann undo", "ok"), ("bad", "9 2 1 0 5 4 3 8 7 6"),
        ))

    def test_hands(self):
        desk = Desk(read_yard(YARD))
        self.assert_answers(desk, (
            ("ann shut b - x", "ok"), ("bob shut b-x", "ok"), ("  ann   free b-x ", "ok"), ("ann undo", "ok"),
            ("ann redo", "ok"), ("ann redo", "refused NothingToRedo"), ("bob undo", "ok"), ("bob redo", "ok"),
        ))
        assert_same(self, desk.hands_of(2), ("bob",))
        assert_same(self, desk.pick(), (0, 1, 3))

    def test_hands_may_be_called_as_anything_is(self):
        desk = Desk(read_yard(YARD))
        for hand in ("a", "x", "t", "ring", "ok", "refused", "abcdefghijkl", "puts", "worths"):
            self.assert_answers(desk, ((hand + " shut a - x", "ok"), (hand + " shut a - x", "refused Twice")))
        self.assertEqual(len(desk.hands_of(0)), 9)

    def test_put_and_drop(self):
        self.assert_answers(Desk(read_yard(YARD)), (
            ("put t train;home;", "ok"), ("plan t", ""), ("moves t", ""), ("check t", "home"),
            ("put t train r; home r;", "ok"), ("plan t", "r by a - x"), ("put t train r r; home r;", "refused Twice"),
            ("plan t", "r by a - x"), ("drop t", "ok"), ("drop t", "refused NoTrain"), ("plan t", "refused NoTrain"),
        ))

    def test_worth(self):
        self.assert_answers(Desk(TAILED), (
            ("worth", "4"), ("ann shut a - x", "ok"), ("worth", "4"), ("ann shut c - y", "ok"), ("worth", "3"),
            ("ann shut b - x", "ok"), ("worth", "2"), ("ann shut a - y", "ok"), ("ann shut b - y", "ok"),
            ("worth", "0"),
        ))
        assert_same(self, Desk(FULL_NAMED).row("worth"), "16")

    def test_serves(self):
        self.assert_answers(Desk(TAILED), (
            ("serves", "ring a - x; a - y; b - y; b - x"), ("ann shut c - y", "ok"),
            ("serves", "ring a - x; a - y; b - y; b - x"), ("ann shut b - y", "ok"), ("serves", "yes"),
        ))
        assert_same(self, Desk(FULL_NAMED).row("serves"), "ring f0 - s0; f0 - s1; f1 - s1; f1 - s0")

    def test_plan_and_moves(self):
        self.assert_answers(Desk(TAILED), (
            ("put t train r s p; home p s r;", "ok"), ("plan t", "r by a - x; s by a - y; p by b - x"),
            ("moves t", "in a; in a; in b; over b - x; out x; over a - x; over a - y; out y; out x"),
        ))

    def test_moves_of_a_plan_that_is_followed(self):
        desk = Desk(read_yard(YARD))
        self.assert_answers(desk, (
            ("put t train r s; home r s;", "ok"), ("plan t", "r by a - x; s by a - x"),
            ("moves t", "in a; in a; over a - x; out x; over a - x; out x"), ("ann shut a - x", "ok"),
            ("moves t", "in a; in a; over a - y; out y; over a - y; out y"), ("ann shut a - y", "ok"),
            ("ann shut b - x", "ok"), ("ann shut b - y", "ok"), ("moves t", "none"), ("plan t", "none"),
            ("put e train; home;", "ok"), ("moves e", ""), ("plan e", ""), ("check e", "home"),
        ))

    def test_plans_of_rows_with_too_many_falls(self):
        self.assert_answers(Desk(read_yard(YARD)), (
            ("put t train p q r s; home s r q p;", "ok"), ("plan t", "none"), ("moves t", "none"),
            ("put t train p q r; home r q p;", "ok"), ("plan t", "p by a - x; q by a - y; r by b - x"),
            ("ann shut a - y", "ok"), ("plan t", "p by a - x; q by b - x; r by b - y"), ("bob shut b - y", "ok"),
            ("plan t", "none"), ("ann free a - y", "ok"), ("plan t", "p by a - x; q by a - y; r by b - x"),
        ))

    def test_bad(self):
        desk = Desk(TAILED)
        row = desk.row("bad").split(" ")
        self.assertEqual(sorted(int(wagon) for wagon in row), list(range(31)))
        self.assert_answers(desk, (
            ("ann shut c - y", "ok"), ("bad", "9 2 1 0 5 4 3 8 7 6"), ("ann shut a - x", "ok"), ("bad", "none"),
        ))
        assert_same(self, Desk(FULL_NAMED).row("bad"), "many")
        # A ring of four tracks and three further ones give 283 wagons, four further ones too many.
        five = Desk((complete(2, 4), (("a", "b"), ("w", "x", "y", "z")), (0,) * 8))
        assert_same(self, five.row("bad"), "many")
        assert_same(self, five.row("ann shut b - z"), "ok")
        self.assertEqual(len(five.row("bad").split(" ")), 283)

    def test_check(self):
        self.assert_answers(Desk(read_yard(YARD)), (
            ("put t train d a b c; home a b c d;", "ok"),
            ("check t d by a-x; a by a-y; b by b-y; c by b-x", "ring a d c b"),
            ("check t c by b-x; b by b-y; a by a-y; d by a-x", "ring a d c b"),
            ("check t d by a-x; a by a-x; b by b-y; c by b-x", "fall d a"),
            ("check t d by a-x; a by b-y; b by b-y; c by b-y", "home"),
            ("ann shut b - y", "ok"), ("check t d by a-x; a by b-y; b by b-y; c by b-y", "home"),
            ("check t d by b-y; a by b-y; b by b-y; c by b-y", "fall d a"),
        ))

    def test_cheapest(self):
        self.assert_answers(Desk(TAILED), (
            ("cheapest 0", ""), ("cheapest 1", "a - y"), ("cheapest 2", "a - y; b - x"),
            ("cheapest 3", "a - y; b - x; b - y"), ("cheapest 4", "a - y; b - x; b - y; c - y"), ("cheapest 5", "none"),
            ("cheapest 60", "none"), ("cheapest 61", "none"), ("cheapest 999", "none"), ("cheapest 9999", "none"),
            ("cheapest 10000", "refused BadNumber"), ("ann shut b - x", "ok"), ("cheapest 1", "a - y"),
            ("cheapest 2", "a - y; b - y"), ("cheapest 3", "a - x; a - y; b - y"),
            ("cheapest 4", "a - x; a - y; b - y; c - y"), ("ann shut a - y", "ok"), ("ann shut a - x", "ok"),
            ("ann shut b - y", "ok"), ("cheapest 1", "c - y"), ("ann shut c - y", "ok"), ("cheapest 1", "none"),
            ("cheapest 0", ""),
        ))
        found = Desk(FULL_NAMED).row("cheapest 16").split("; ")
        self.assertEqual(found, ["f0 - s%d" % b for b in range(12)] + ["f%d - s0" % a for a in range(1, 5)])

    def test_counts(self):
        self.assert_answers(Desk(TAILED), (
            ("counts a - x", "no"), ("counts c - y", "yes"), ("counts c - x", "refused NoTrack"),
            ("counts d - z", "refused NoTrack"), ("ann shut b - y", "ok"), ("counts a - x", "yes"),
            ("counts b - y", "no"), ("counts c - y", "yes"), ("bob shut c - y", "ok"), ("counts c - y", "no"),
        ))


class RefusedTest(unittest.TestCase):

    def test_each_refused_row_and_that_nothing_has_changed(self):
        desk = at_work()
        for row, error in REFUSED:
            for text in (row, "  " + row):
                self.assertEqual(desk.row(text), "refused " + error, row[:80])
        self.assertEqual(unwound(desk), unwound(at_work()))

    def test_things_that_are_no_texts(self):
        desk = at_work()
        for thing in (None, True, False, 0, 7, (), ("worth",), [], b"worth", nest(19)):
            assert_same(self, desk.row(thing), "refused BadText")
        self.assertEqual(unwound(desk), unwound(at_work()))

    def test_lanes_that_are_not_joined(self):
        desk = Desk(TAILED)
        for row in ("ann shut c - x", "ann free c - x", "counts c - x", "ann shut d - z ;", "counts a - z -"):
            assert_same(self, desk.row(row), "refused NoTrack")
        assert_same(self, desk.row("put t train r; home r;"), "ok")
        for row in ("check t r by c - x", "check t r by d - y ; ;"):
            assert_same(self, desk.row(row), "refused NoTrack")

    def test_long_texts(self):
        desk = at_work()
        assert_same(self, desk.row("worth" + " " * 59995), "2")
        for text in ("worth" + " " * 59996, "w" * 60001, ";" * 60001, "ann undo" + " " * 60000, "ann undo      %"):
            assert_same(self, desk.row(text), "refused BadText")
        for sign in ";-a9":
            assert_same(self, desk.row(sign * 60000), "refused BadText")
        self.assertEqual(unwound(desk), unwound(at_work()))

    def test_words_that_are_kept(self):
        for word in KEPT:
            desk = at_work()
            for row in ("%s undo", "%s shut a - x", "put %s train; home;", "drop %s", "plan %s", "moves %s", "check %s",
                        "counts %s - x", "counts a - %s", "ann shut %s - x"):
                assert_same(self, desk.row(row % word), "refused BadText")

    def test_four_hundred_wagons_and_one_more(self):
        desk = Desk(FULL_NAMED)
        names = " ".join(MANY)
        assert_same(self, desk.row("put t train %s more; home ;" % names), "refused TooMany")
        assert_same(self, desk.row("put t train %s; home %s;" % (names, names)), "ok")
        assert_same(self, desk.row("plan t"), "; ".join(name + " by f0 - s0" for name in MANY))

    def test_too_many_trains_are_refused_at_the_end(self):
        desk = Desk(NAMED)
        for at in range(40):
            assert_same(self, desk.row("put t%d train; home;" % at), "ok")
        assert_same(self, desk.row("put u train; home;"), "refused TooMany")
        assert_same(self, desk.row("put u train; home; ;"), "refused BadText")
        assert_same(self, desk.row("put u train r; home s;"), "refused NoName")
        assert_same(self, desk.row("put t3 train r; home r;"), "ok")
        assert_same(self, desk.row("drop t9"), "ok")
        assert_same(self, desk.row("put u train; home;"), "ok")
        assert_same(self, desk.row("put t9 train; home;"), "refused TooMany")

    def test_each_word_at_each_place(self):
        rows = (
            "ann shut a - y", "bob free a - y", "ann undo", "bob redo", "put u train r s; home s r;", "drop t", "worth",
            "serves", "plan t", "moves t", "bad", "check t r by a - x; s by b - y", "cheapest 2", "counts b - y",
        )
        for row in rows:
            words = split(row)
            for at in range(len(words) + 1):
                self.assert_as_the_model(" ".join(words[:at]))
                self.assert_as_the_model(" ".join(words[:at] + words[at + 1:]))
                for word in POOL + ("r", "s", "y", "u", "ann", "bob"):
                    self.assert_as_the_model(" ".join(words[:at] + [word] + words[at:]))
                    self.assert_as_the_model(" ".join(words[:at] + [word] + words[at + 1:]))

    def assert_as_the_model(self, text):
        """The answer is that of the model at the same work."""
        desk, model = at_work(), DeskModel(NAMED)
        for row in ("ann shut a - x", "ann shut a - y", "bob shut a - y", "ann undo", "put t train s r; home r s;"):
            self.assertEqual(model.row(row), "ok")
        assert_same(self, desk.row(text), model.row(text))
        assert_same(self, desk.pick(), model.pick())


class DrawnTest(unittest.TestCase):

    def drawn(self, dice, at):
        """A named yard: any one, or one with rings."""
        if at % 3 == 0:
            return some_named(dice, dice.choice((2, 3, 5)))
        yard = complete(dice.choice((2, 3)), dice.choice((2, 3)))
        names = (("a", "b", "c")[:yard[0]], ("x", "y", "z")[:yard[1]])
        return (yard, names, tuple(dice.randint(0, 4) for _ in yard[2]))

    def test_drawn_rows(self):
        dice = dice_of(118)
        found = set()
        for at in range(120):
            named = self.drawn(dice, at)
            desk, model = Desk(named), DeskModel(named)
            talk = Talk(dice, named, ("ann", "bob", "c"), ("t", "u", "v"))
            for _ in range(60):
                text = talk.text(9)
                answer = desk.row(text)
                assert_same(self, answer, model.row(text))
                assert_same(self, desk.pick(), model.pick())
                first = answer.split(" ")[0]
                found.add(answer if first == "refused" else first)
            for t in range(len(named[0][2])):
                assert_same(self, desk.hands_of(t), model.hands_of(t))
        for answer in (
            "ok", "", "none", "many", "yes", "no", "ring", "fall", "home", "in", "3", "4", "refused BadText",
            "refused Twice", "refused NoName", "refused NoTrack", "refused NoTrain", "refused NotShut",
            "refused NothingToUndo", "refused NothingToRedo", "refused BadNumber",
        ):
            self.assertIn(answer, found)

    def test_many_shuts_and_frees_of_one_hand(self):
        dice = dice_of(119)
        for _ in range(6):
            desk, model = Desk(NAMED), DeskModel(NAMED)
            for _ in range(700):
                hand = dice.choice(("ann", "ann", "ann", "bob"))
                word = dice.choice(("shut", "free") * 10 + ("undo", "redo"))
                row = hand + " " + word
                if word in ("shut", "free"):
                    row += " %s - %s" % (dice.choice("ab"), dice.choice("xy"))
                assert_same(self, desk.row(row), model.row(row))
                assert_same(self, desk.pick(), model.pick())
            self.assertGreater(len(model.people["ann"].deeds), 110)
            for row in ("ann undo",) * 130 + ("bob undo",) * 130 + ("ann redo",) * 130:
                assert_same(self, desk.row(row), model.row(row))
                assert_same(self, desk.pick(), model.pick())

    def test_a_desk_made_anew_answers_the_same(self):
        dice = dice_of(120)
        for at in range(80):
            named = self.drawn(dice, at)
            desk = Desk(named)
            words, hands = ("t", "u", "v"), ("ann", "bob", "c")
            talk = Talk(dice, named, hands, words)
            model = DeskModel(named)
            for _ in range(60):
                text = talk.text(20)
                desk.row(text)
                model.row(text)
            anew = Desk(named)
            for t in range(len(named[0][2])):
                for hand in desk.hands_of(t)[::-1]:
                    anew.shut(hand, t)
            for word, (row, wagons) in model.trains.items():
                anew.put(word, row, wagons)
            rows = questions(named, words)
            for word, (row, wagons) in model.trains.items():
                rows += ["check " + word + " " + blanked(dice, talk.dealing(word)) for _ in range(3)]
            rows += [talk.text(20) for _ in range(20)]
            for text in rows:
                if "undo" not in text and "redo" not in text:
                    assert_same(self, desk.row(text), anew.row(text))
                    assert_same(self, desk.pick(), anew.pick())

    def test_questions_change_nothing(self):
        desk = at_work()
        for text in questions(NAMED, ("t", "u")) + ["check t r by a - x; s by b - y"]:
            assert_same(self, desk.row(text), desk.row(text))
        self.assertEqual(unwound(desk), unwound(at_work()))

    def test_the_greatest_train(self):
        row = row_of_falls(400, 16)
        desk, model = Desk(FULL_NAMED), DeskModel(FULL_NAMED)
        for text in ("put t " + print_train(row, MANY), "plan t", "moves t", "check t " + desk.row("plan t")):
            assert_same(self, desk.row(text), model.row(text))
        plan = desk.row("plan t")
        assert_same(self, desk.row("check t " + plan), "home")
        for row in (LONG, FALLEN):
            dealt = "; ".join(name + " by f1 - s1" for name in MANY)
            desk.put("t", row, MANY)
            answer = "home" if row == LONG else "fall wagon399 wagon398"
            assert_same(self, desk.row("check t " + dealt), answer)
        self.assertEqual(len(FULL[2]), 60)
        self.assertEqual(FULL_NAMED[1], FULL_LANES)


if __name__ == "__main__":
    unittest.main()
