"""The whole program: points [0.1] to [0.4] over all modules together, from texts to wagons that are home."""

import copy
import unittest
from itertools import product
from time import monotonic

from trackworth.badrows import bad_row
from trackworth.dealings import is_dealing, made_dealing
from trackworth.desk import Desk
from trackworth.errors import BadNumber, BadPrices, BadRow, BadText, BadYard, TooMany
from trackworth.exchanges import count_forests, swaps
from trackworth.falls import falling, falls
from trackworth.forests import forest, worth
from trackworth.journal import Engine, opened, replayed
from trackworth.kernel import cheapest_right, order_right, refuted_right, stuck_right
from trackworth.mirror import mirror_dealing
from trackworth.movetexts import print_dealing, print_moves, read_dealing, read_moves
from trackworth.moves import run, told_moves
from trackworth.plans import plan
from trackworth.prices import cheapest, made_prices
from trackworth.printtrain import print_train
from trackworth.printyard import print_yard
from trackworth.readtrain import read_train
from trackworth.readyard import read_yard
from trackworth.refuter import refuted
from trackworth.rings import ring, ring_right, serves
from trackworth.rows import joined, made_row, places
from trackworth.shut import fragile, shut
from trackworth.solver import some_dealing
from trackworth.stands import all_home, begun, is_stand
from trackworth.waits import order, stuck
from trackworth.webs import rank
from trackworth.worths import adds, counts
from trackworth.yards import all_tracks, made_yard, mirrored
from tests.drawn import answered, blanked, some_named, some_names, split
from tests.support import (
    FULL, LISTS, ODD_VALUES, SQUARE, assert_refused, assert_same, complete, dice_of, some_row, yard_of_ring,
)
from tests.test_interface import INTERFACE, function_of
from tests.test_names import FULL_LANES, NAMED
from tests.test_plans import row_of_falls
from tests.test_readtrain import MANY
from tests.test_rows import FALLEN, LONG

SECONDS = 10


def judges():
    """All judges of the package, each with the number of its arguments."""
    found = []
    for module, functions in INTERFACE.items():
        for name, arguments in functions.items():
            if name.startswith("is_") or name.endswith("_right"):
                found.append((function_of(module, name), len(arguments.split())))
    return found


def makers():
    """All functions whose names begin with made_, each with the number of its arguments."""
    return [(function_of(module, name), len(arguments.split())) for module, functions in INTERFACE.items()
            for name, arguments in functions.items() if name.startswith("made_")]


class FromTextsToHomeTest(unittest.TestCase):

    def test_the_whole_way(self):
        dice = dice_of(121)
        driven = 0
        for _ in range(120):
            named = read_yard(blanked(dice, split(print_yard(some_named(dice)))))
            yard = named[0]
            row = some_row(dice, 9)
            row, wagons = read_train(blanked(dice, split(print_train(row, some_names(dice, len(row))))))
            dealing = plan(yard, all_tracks(yard), row)
            assert_same(self, dealing is None, falls(row) > worth(yard))
            if dealing is not None:
                driven += len(row) > 2
                text = print_dealing(named, row, wagons, dealing)
                assert_same(self, read_dealing(named, row, wagons, text), dealing)
                self.drive(dice, named, row, read_dealing(named, row, wagons, text))
        self.assertGreater(driven, 30)

    def drive(self, dice, named, row, dealing):
        """Drive the row by any green moves, with cuts, and its journal as a text in between."""
        yard = named[0]
        engine = Engine(yard, row, dealing)
        while not engine.home():
            move = dice.choice(engine.greens())
            if dice.randint(0, 3) == 0:
                journal, stand = engine.cut(move, dice.randint(0, 1) == 1)
                journal = read_moves(named, print_moves(named, journal))
                engine = Engine.again(yard, row, dealing, opened(yard, row, journal, stand), stand)
            else:
                engine.do(move)
        self.assertEqual(len(engine.journal()), 3 * len(row))
        assert_same(self, all_home(replayed(yard, row, read_moves(named, print_moves(named, engine.journal())))), True)
        assert_same(self, refuted(yard, row, dealing), None)
        told = told_moves(yard, row, dealing)
        assert_same(self, all_home(replayed(yard, row, told)), True)

    def test_a_desk_and_the_functions_tell_the_same(self):
        dice = dice_of(122)
        for _ in range(60):
            named = some_named(dice)
            yard = named[0]
            desk = Desk(named)
            row = some_row(dice, 7)
            wagons = some_names(dice, len(row))
            desk.put("t", row, wagons)
            for t in all_tracks(yard):
                if dice.randint(0, 3) == 0:
                    desk.shut("ann", t)
            pick = desk.pick()
            assert_same(self, desk.row("worth"), str(rank(yard, pick)))
            assert_same(self, desk.row("serves") == "yes", serves(yard, pick))
            dealing = plan(yard, pick, row)
            if dealing is None:
                assert_same(self, desk.row("plan t"), "none")
            else:
                assert_same(self, read_dealing(named, row, wagons, desk.row("plan t")), dealing)
                moves = read_moves(named, desk.row("moves t"))
                assert_same(self, moves, told_moves(yard, row, dealing))
                assert_same(self, desk.row("check t " + desk.row("plan t")), "home")


class LimitsTest(unittest.TestCase):

    def test_lanes(self):
        for firsts, seconds in product((0, 1, 12, 13), repeat=2):
            yard = (firsts, seconds, ())
            if 0 < firsts < 13 and 0 < seconds < 13:
                assert_same(self, made_yard(yard), yard)
                assert_same(self, worth(yard), 0)
            else:
                assert_refused(self, BadYard, -2 if firsts in (0, 13) else -3, made_yard, yard)

    def test_tracks(self):
        pairs = complete(12, 12)[2]
        assert_same(self, made_yard((12, 12, pairs[:60])), (12, 12, pairs[:60]))
        for function in (made_yard, all_tracks, mirrored, worth):
            assert_refused(self, BadYard, -4, function, (12, 12, pairs[:61]))

    def test_wagons(self):
        longer = LONG + (400,)
        assert_same(self, made_row(LONG), LONG)
        for function in (made_row, places, falls, falling):
            assert_refused(self, BadRow, -1, function, longer)
        assert_refused(self, BadRow, -1, plan, SQUARE, (), longer)
        assert_refused(self, BadRow, -1, made_dealing, SQUARE, longer, (0,) * 401)
        assert_refused(self, BadRow, -1, mirror_dealing, SQUARE, longer, (0,) * 401)
        assert_refused(self, BadRow, -1, print_train, longer, MANY + ("more",))
        assert_refused(self, BadRow, -1, Desk(NAMED).put, "t", longer, MANY + ("more",))
        assert_same(self, joined(LONG[:200], FALLEN[200:]), LONG[:200] + tuple(200 + wagon for wagon in FALLEN[200:]))
        assert_refused(self, TooMany, 401, joined, LONG[:201], LONG[:200])

    def test_other_limits(self):
        assert_refused(self, TooMany, 9, some_dealing, SQUARE, LONG[:9])
        assert_refused(self, TooMany, 15, count_forests, complete(3, 5), 2)
        assert_refused(self, TooMany, 850, bad_row, complete(2, 4), tuple(range(8)))
        assert_refused(self, BadNumber, 61, cheapest, FULL, (0,) * 60, 61)
        assert_refused(self, BadNumber, 61, count_forests, SQUARE, 61)
        assert_refused(self, BadNumber, 61, fragile, SQUARE, 61, 1)
        assert_refused(self, BadNumber, 3, fragile, SQUARE, 60, 3)
        assert_refused(self, BadPrices, 3, made_prices, SQUARE, (0, 0, 999, 1000))
        assert_refused(self, BadText, 60000, read_yard, "first a; second b;" + " " * 59983)


class JudgesTest(unittest.TestCase):

    def test_all_judges(self):
        self.assertEqual(len(judges()), 12)
        values = ODD_VALUES + LISTS + (SQUARE, NAMED, "a" * 60001)
        for judge, many in judges():
            for value in values:
                self.assertIn(repr(judge(*(value,) * many)), ("True", "False"))
                for other in values[::7]:
                    for turned in ((value, other, other, value), (other, value, other, value)):
                        self.assertIn(repr(judge(*turned[:many])), ("True", "False"))

    def test_what_made_functions_say_of_odd_values(self):
        self.assertEqual(len(makers()), 5)
        for maker, many in makers():
            for value in ODD_VALUES + LISTS:
                for arguments in ((value,) * many, (SQUARE, (), value)[-many:], (SQUARE, value, value)[-many:]):
                    try:
                        self.assertIsInstance(maker(*arguments), tuple)
                    except ValueError as error:
                        self.assertIs(type(error.what), int)

    def test_nothing_is_changed_by_what_is_refused(self):
        for function, many in judges() + makers():
            for value in LISTS + ([SQUARE, [], [0]], (SQUARE, [["a"], ["b"]], [])):
                handed = (value,) * many
                before = copy.deepcopy(handed)
                try:
                    function(*handed)
                except ValueError:
                    pass
                assert_same(self, handed, before)


class GreatestTest(unittest.TestCase):
    """The greatest yards, rows, trains and texts are answered in seconds."""

    def setUp(self):
        self.begun = monotonic()

    def tearDown(self):
        self.assertLess(monotonic() - self.begun, SECONDS)

    def yards(self):
        """Yards of sixty tracks."""
        pairs = complete(12, 12)[2]
        drawn = [(12, 12, tuple(sorted(dice_of(seed).sample(pairs, 60)))) for seed in (123, 124)]
        return [FULL, (12, 12, pairs[::2][:60]), complete(5, 12)] + drawn

    def test_yards(self):
        for yard in self.yards():
            tracks = all_tracks(yard)
            self.assertEqual(len(tracks), 60)
            found = ring(yard, tracks)
            assert_same(self, ring_right(yard, tracks, found), True)
            assert_same(self, serves(yard, forest(yard, tracks)), True)
            self.assertEqual(len(forest(yard, tracks)), worth(yard))
            prices = tuple(7 * t % 60 for t in tracks)
            picked = cheapest(yard, prices, worth(yard))
            assert_same(self, cheapest_right(yard, prices, worth(yard), picked), True)
            swaps(yard, forest(yard, tracks), picked)
            assert_same(self, fragile(yard, 0, 2), None)
            assert_same(self, shut(yard, (), tracks), tracks)
            for t in tracks:
                counts(yard, t)
            for a, b in product(range(yard[0]), range(yard[1])):
                adds(yard, a, b)
        for many in range(4, 26, 2):
            self.assertEqual(len(ring(yard_of_ring(many), all_tracks(yard_of_ring(many)))), many)

    def test_rows(self):
        row = row_of_falls(400, 16)
        dealing = plan(FULL, all_tracks(FULL), row)
        assert_same(self, order_right(FULL, row, dealing, order(FULL, row, dealing)), True)
        moves, stand = run(FULL, row, dealing, tuple(range(1200)))
        self.assertEqual(len(moves), 1200)
        assert_same(self, all_home(stand), True)
        assert_same(self, opened(FULL, row, moves, stand), moves)
        assert_same(self, is_stand(FULL, row, begun(FULL, row)), True)
        turned = mirror_dealing(FULL, row, dealing)
        assert_same(self, is_dealing(mirrored(FULL), places(row), turned), True)
        crossed = tuple(range(60)) * 6 + tuple(range(40))
        assert_same(self, stuck_right(FULL, FALLEN, crossed, stuck(FULL, FALLEN, crossed)), True)
        reason = refuted(FULL, FALLEN, crossed)
        assert_same(self, refuted_right(FULL, FALLEN, crossed, reason), True)

    def test_an_engine(self):
        row = row_of_falls(400, 16)
        dealing = plan(FULL, all_tracks(FULL), row)
        engine = Engine(FULL, row, dealing)
        step = 0
        while not engine.home():
            greens = engine.greens()
            engine.do(greens[step % len(greens)])
            step += 1
        self.assertEqual(len(engine.journal()), 1200)

    def test_texts(self):
        names = tuple("lane%08d" % at for at in range(24))
        wagons = tuple("wagon%07d" % wagon for wagon in range(400))
        named = (FULL, (names[:12], names[12:]), (999,) * 60)
        row = row_of_falls(400, 16)
        dealing = plan(FULL, all_tracks(FULL), row)
        assert_same(self, read_yard(print_yard(named)), named)
        assert_same(self, read_train(print_train(row, wagons)), (row, wagons))
        text = print_dealing(named, row, wagons, dealing)
        assert_same(self, read_dealing(named, row, wagons, text), dealing)
        desk = Desk(named)
        for at in range(40):
            desk.put("t%d" % at, row, wagons)
        for text in ("plan t7", "moves t7", "check t7 " + text, "serves", "worth", "bad", "cheapest 16"):
            self.assertNotIn("refused", desk.row(text))

    def test_texts_of_sixty_thousand_signs(self):
        for sign in " ;-a9A":
            for text in (sign * 60000, sign * 60001, "first a; second b;" + sign * 59982, "worth" + sign * 59995):
                self.assertEqual(answered(read_train, text)[0], "BadText")
                found = "found" if text.startswith("first a; second b;  ") else "BadText"
                self.assertEqual(answered(read_yard, text)[0], found)
                self.assertEqual(Desk(NAMED).row(text), "3" if text.startswith("worth ") else "refused BadText")
        moves = "in a;over a-x;out x;" * 2999 + "in a"
        found = read_moves(NAMED, moves)
        self.assertEqual(len(found), 8998)
        assert_same(self, read_moves(NAMED, print_moves(NAMED, found[:1000])), found[:1000])

    def test_many_hands(self):
        desk = Desk((FULL, FULL_LANES, (0,) * 60))
        for at in range(2000):
            desk.shut("h%d" % at, at % 50)
        self.assertEqual(desk.pick(), tuple(range(50, 60)))
        self.assertEqual(len(desk.hands_of(7)), 40)
        assert_same(self, desk.row("worth"), "10")

    def test_searches(self):
        for row in ((7, 6, 5, 4, 3, 2, 1, 0), (3, 7, 2, 6, 1, 5, 0, 4), (5, 4, 3, 2, 1, 0, 7, 6)):
            for yard in (SQUARE, complete(2, 3), yard_of_ring(6)):
                found = some_dealing(yard, row)
                if found is not None:
                    self.assertIsNotNone(order(yard, row, found))
        self.assertEqual(count_forests(complete(2, 7), 8), 448)


if __name__ == "__main__":
    unittest.main()
