"""What holds for all texts that are read: points [11.2] and [11.3], against a plain reading of the grammars."""

import unittest

from trackworth.errors import BadText
from trackworth.movetexts import read_dealing, read_moves
from trackworth.readtrain import read_train
from trackworth.readyard import read_yard
from tests.drawn import POOL, answered, blanked, faulty, split, told
from tests.grammar import DealingReading, MovesReading, TrainReading, YardReading
from tests.support import SQUARE, assert_refused, assert_same, dice_of, nest

NAMED = (SQUARE, (("a", "b"), ("x", "y")), (5, 1, 0, 999))
ROW = (1, 0, 2)
WAGONS = ("s", "r", "t")

# Each reader with its plain reading, and right texts.
READERS = {
    "yard": (read_yard, YardReading, (
        "first a b; second x y; track a - x price 5; track b - y; track a - y price 999;", "first a; second b;",
        "first a; second x; track a - x price 0;",
    )),
    "train": (read_train, TrainReading, ("train r s t; home s r t;", "train; home;", "train r; home r;")),
    "dealing": (
        lambda text: read_dealing(NAMED, ROW, WAGONS, text), lambda text: DealingReading(NAMED, ROW, WAGONS, text),
        ("r by a - x; s by b - y; t by a - y", "t by b - x; r by b - x; s by b - x"),
    ),
    "moves": (
        lambda text: read_moves(NAMED, text), lambda text: MovesReading(NAMED, text),
        ("in a; over a - x; out x; over b - y", "out y", "in b; in a", ""),
    ),
}

POOLED = POOL + ("r", "s", "t", "y", "by", "home")


class TextsTest(unittest.TestCase):

    def assert_read(self, kind, text):
        """The text is read, or refused, as the plain reading does it."""
        function, reading, _ = READERS[kind]
        found, wanted = answered(function, text), told(reading, text)
        self.assertEqual(found, wanted, "%s: %r" % (kind, text[:200]))
        assert_same(self, found, wanted)
        return found[0]

    def right(self, kind):
        """What is read from the first right text of this kind."""
        function, _, texts = READERS[kind]
        return function(texts[0])

    def each_text(self):
        """All right texts with their kinds, and the words of each."""
        return [(kind, text, split(text)) for kind in READERS for text in READERS[kind][2]]

    def test_right_texts(self):
        for kind, text, _ in self.each_text():
            self.assertEqual(self.assert_read(kind, text), "found")

    def test_things_that_are_no_texts(self):
        for thing in (None, True, False, 0, 7, -1, (), ("first",), ("a", "b"), [], ["first a;"], b"first a;", nest(19)):
            for kind in READERS:
                assert_refused(self, BadText, -1, READERS[kind][0], thing)

    def test_the_end_at_each_place(self):
        for kind, _, words in self.each_text():
            for many in range(len(words)):
                self.assert_read(kind, " ".join(words[:many]))
                self.assert_read(kind, " ".join(words[:many]) + "   ")

    def test_each_word_at_each_place(self):
        for kind, _, words in self.each_text():
            for at in range(len(words) + 1):
                for word in POOLED:
                    self.assert_read(kind, " ".join(words[:at] + [word] + words[at:]))
                    self.assert_read(kind, " ".join(words[:at] + [word] + words[at + 1:]))
                    self.assert_read(kind, " ".join(words[:at] + [word]))

    def test_each_word_left_out_or_told_again(self):
        for kind, _, words in self.each_text():
            for at in range(len(words)):
                self.assert_read(kind, " ".join(words[:at] + words[at + 1:]))
                for more in range(1, 8):
                    self.assert_read(kind, " ".join(words[:at + more] + words[at:]))
                    self.assert_read(kind, " ".join(words[:at] + words[at + more:]))

    def test_blanks_everywhere(self):
        dice = dice_of(110)
        for kind, text, words in self.each_text():
            for _ in range(40):
                self.assert_same_meaning(kind, text, blanked(dice, words))
            self.assert_same_meaning(kind, text, "     ".join([""] + words + [""]))

    def assert_same_meaning(self, kind, text, other):
        """Both texts read to the same."""
        assert_same(self, READERS[kind][0](other), READERS[kind][0](text))

    def test_no_blanks_where_none_are_needed(self):
        texts = {
            "yard": "first a b;second x y;track a-x price 5;track b-y;track a-y price 999;",
            "train": "train r s t;home s r t;",
            "dealing": "r by a-x;s by b-y;t by a-y",
            "moves": "in a;over a-x;out x;over b-y",
        }
        for kind, text in texts.items():
            self.assert_same_meaning(kind, READERS[kind][2][0], text)

    def test_each_sign_at_some_places(self):
        for kind, text, _ in self.each_text():
            for code in list(range(256)) + [0x2028, 0x3000, 0x660, 0x430, 0xff1b, 0x2212, 0x10ffff, 0xd800]:
                for at in {0, len(text) // 2, len(text)}:
                    self.assert_read(kind, text[:at] + chr(code) + text[at:])
                    if not 32 <= code <= 126 or code == 37:
                        changed = text[:at] + chr(code) + text[at:]
                        assert_refused(self, BadText, at, READERS[kind][0], changed)

    def test_a_sign_that_no_text_has_far_behind_another_fault(self):
        for kind in READERS:
            for fault in ("", ";", "first track", "train r r", "q by", "in q", "counts - 7"):
                for sign in "%\n\t\x7f\x00\u00e4":
                    text = fault + " " * 30000 + sign + " %" * 40
                    assert_refused(self, BadText, len(fault) + 30000, READERS[kind][0], text)

    def test_sixty_thousand_signs_and_one_more(self):
        for kind, text, _ in self.each_text():
            function = READERS[kind][0]
            half = text.find(" ")
            for at in {0, max(half, 0), len(text)}:
                longest = text[:at] + " " * (60000 - len(text)) + text[at:]
                self.assertEqual(len(longest), 60000)
                self.assert_same_meaning(kind, text, longest)
                assert_refused(self, BadText, 60000, function, " " + longest)
                assert_refused(self, BadText, 60000, function, longest + "%")
                assert_refused(self, BadText, 60000, function, longest + " " * 9999 + "%")
                assert_refused(self, BadText, 59999, function, longest[:59999] + "%" + longest)
            assert_refused(self, BadText, 60000, function, "q" * 70000)
            assert_refused(self, BadText, 0, function, "%" * 60001)

    def test_sixty_thousand_signs_of_one_kind(self):
        for kind in READERS:
            for sign in ";-aA9 ~":
                self.assert_read(kind, sign * 60000)
                self.assert_read(kind, READERS[kind][2][0] + " " + sign * 50000)

    def test_drawn_faults(self):
        dice = dice_of(111)
        found = {}
        for _ in range(1500):
            for kind, _, words in self.each_text():
                answer = self.assert_read(kind, blanked(dice, faulty(dice, words, POOLED)))
                found[kind, answer] = found.get((kind, answer), 0) + 1
        for kind, answer in (
            ("yard", "BadText"), ("yard", "Twice"), ("yard", "NoName"), ("yard", "BadNumber"), ("yard", "found"),
            ("train", "Twice"), ("train", "NoName"), ("train", "found"), ("dealing", "NoName"), ("dealing", "Twice"),
            ("dealing", "found"), ("moves", "NoName"), ("moves", "found"),
        ):
            self.assertGreater(found.get((kind, answer), 0), 2, (kind, answer))


if __name__ == "__main__":
    unittest.main()
