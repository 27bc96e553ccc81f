"""Told moves and runs: points [6.3] to [6.5] and [0.3] (a) and (b)."""

import unittest
from itertools import permutations, product
from time import monotonic

from trackworth.engine import moved
from trackworth.errors import BadDealing, BadPicks, BadRow, BadYard, Stuck
from trackworth.moves import run, told_moves
from trackworth.plans import plan
from trackworth.signals import greens
from trackworth.stands import all_home, begun
from trackworth.waits import order, stuck
from trackworth.yards import all_tracks
from tests.model import Lanes, green_moves, last_stands, not_over, start
from tests.support import (
    BARE, FULL, SQUARE, assert_refused, assert_same, dice_of, nest, some_dealing, some_row, some_yard,
)
from tests.test_dealings import BAD_DEALINGS
from tests.test_plans import row_of_falls
from tests.test_rows import BAD_ROWS, FALLEN, LONG
from tests.test_stands import ROW, TWO
from tests.test_waits import TOO_MUCH, TOO_MUCH_DEALT, moves_lead_out, short_cases, some_cases
from tests.test_yards import BAD_YARDS

# No picks of a run, each with what run says of it.
BAD_CHOICES = (
    (None, -1), (True, -1), (False, -1), (0, -1), ("", -1), ("01", -1), ([], -1), ([0], -1), ([0, 1], -1), ({}, -1),
    ((-1,), 0), ((True,), 0), ((False,), 0), ((None,), 0), (("0",), 0), (((),), 0), (((0,),), 0), (([],), 0),
    ((0, -1), 1), ((0, 1, True), 2), ((0, False, -1), 1), ((5, None), 1), ((10 ** 30, -10 ** 30), 1), (nest(20), 0),
    ((0,) * 1300 + (-1,), 1300),
)


def told_by_rule(yard, row, dealing, middle):
    """The moves of [6.3], made by the plain model one after the other."""
    track = dict(zip(row, dealing))
    lanes = Lanes(yard, start(yard, row))
    moves = []

    def made(move):
        if lanes.make(move):
            moves.append(move)
            return True
        return False

    for wagon in row:
        made(("in", yard[2][track[wagon]][0]))
    for wagon in middle:
        made(("over", track[wagon]))
        while any(made(("out", b)) for b in range(yard[1])):
            pass
    return tuple(moves), lanes.stand()


def run_by_rule(yard, row, dealing, picks):
    """The run of [6.4], by the plain model."""
    lanes = Lanes(yard, start(yard, row))
    left = list(picks)
    moves = []
    while True:
        found = green_moves(yard, row, dealing, lanes.stand())
        if not found:
            return tuple(moves), lanes.stand()
        moves.append(found[left.pop(0) % len(found) if left else 0])
        assert lanes.make(moves[-1])


class ToldMovesTest(unittest.TestCase):

    def test_the_example(self):
        wanted = (("in", 0), ("in", 1), ("over", 3), ("out", 1), ("over", 0), ("out", 0))
        assert_same(self, told_moves(SQUARE, (1, 0), (0, 3)), wanted)
        assert_same(self, told_moves(yard=SQUARE, row=(1, 0), dealing=(0, 3)), wanted)

    def test_several_wagons_leave_at_once(self):
        found = told_moves(SQUARE, (1, 0), (0, 1))
        assert_same(self, found, (("in", 0),) * 2 + (("over", 0), ("over", 1), ("out", 1), ("out", 0)))
        found = told_moves((1, 2, ((0, 0), (0, 1))), (1, 2, 0), (0, 0, 1))
        over = (("over", 0), ("over", 0), ("over", 1))
        assert_same(self, found, (("in", 0),) * 3 + over + (("out", 1), ("out", 0), ("out", 0)))
        found = told_moves((1, 3, ((0, 0), (0, 1), (0, 2))), (2, 1, 0, 3), (0, 1, 2, 2))
        over = (("over", 0), ("over", 1), ("over", 2), ("out", 2), ("out", 1), ("out", 0), ("over", 2), ("out", 2))
        assert_same(self, found, (("in", 0),) * 4 + over)

    def test_edges(self):
        assert_same(self, told_moves(BARE, (), ()), ())
        assert_same(self, told_moves(SQUARE, (0,), (2,)), (("in", 1), ("over", 2), ("out", 0)))
        found = told_moves(SQUARE, LONG, (1,) * 400)
        assert_same(self, found, (("in", 0),) * 400 + (("over", 1), ("out", 1)) * 400)

    def test_dealings_that_do_not_work(self):
        assert_refused(self, Stuck, (0, 3, 2, 1), told_moves, SQUARE, (3, 0, 1, 2), (0, 1, 3, 2))
        assert_refused(self, Stuck, (2, 9, 7, 3), told_moves, SQUARE, TOO_MUCH, TOO_MUCH_DEALT)
        assert_refused(self, Stuck, (0, 1), told_moves, SQUARE, (1, 0), (2, 2))
        assert_refused(self, Stuck, LONG, told_moves, SQUARE, FALLEN, (3,) * 400)

    def check(self, yard, row, dealing):
        """The moves are those of the words and bring all home, each one green; or the ring of waits is told."""
        middle = order(yard, row, dealing)
        if middle is None:
            assert_refused(self, Stuck, stuck(yard, row, dealing), told_moves, yard, row, dealing)
            return
        found = told_moves(yard, row, dealing)
        wanted, last = told_by_rule(yard, row, dealing, middle)
        assert_same(self, found, wanted)
        self.assertEqual(last, ((), ((),) * yard[0], ((),) * yard[1], len(row)))
        self.assertEqual(len(found), 3 * len(row))
        lanes = Lanes(yard, start(yard, row))
        for move in found:
            self.assertIn(move, greens(yard, row, dealing, lanes.stand()))
            self.assertTrue(lanes.make(move))

    def test_all_dealings_of_short_rows(self):
        for yard, row, dealing in short_cases()[::2]:
            self.check(yard, row, dealing)

    def test_dealings_of_longer_rows(self):
        for yard, row, dealing in some_cases(51, 200, 7):
            self.check(yard, row, dealing)
        dice = dice_of(52)
        for _ in range(40):
            yard = some_yard(dice, 6)
            row = some_row(dice, 20)
            dealing = plan(yard, all_tracks(yard), row)
            if dealing is not None:
                self.check(yard, row, dealing)


class RunTest(unittest.TestCase):

    def test_the_example(self):
        moves, stand = run(SQUARE, (1, 0), (0, 3), (0, 1, 3))
        assert_same(self, moves, (("in", 0), ("over", 0), ("in", 1), ("over", 3), ("out", 1), ("out", 0)))
        assert_same(self, stand, ((), ((), ()), ((), ()), 2))
        assert_same(self, run(yard=SQUARE, row=(1, 0), dealing=(0, 3), picks=(0, 1, 3)), (moves, stand))

    def test_the_empty_picks(self):
        moves = (("in", 0), ("in", 1), ("over", 0), ("over", 3), ("out", 1), ("out", 0))
        assert_same(self, run(SQUARE, (1, 0), (0, 3), ()), (moves, ((), TWO, TWO, 2)))
        assert_same(self, run(SQUARE, (1, 0), (0, 3), (0,) * 6), (moves, ((), TWO, TWO, 2)))

    def test_picks_beyond_the_green_moves_and_beyond_the_run(self):
        wanted = run(SQUARE, (1, 0), (0, 3), (0, 1, 3))
        assert_same(self, run(SQUARE, (1, 0), (0, 3), (7, 3, 5 * 10 ** 30 + 1)), wanted)
        assert_same(self, run(SQUARE, (1, 0), (0, 3), (0, 1, 3, 0, 0, 0, 7, 10 ** 30, 5)), wanted)
        assert_same(self, run(SQUARE, (1, 0), (0, 3), (10 ** 30,) * 100)[1], ((), TWO, TWO, 2))

    def test_edges(self):
        assert_same(self, run(BARE, (), (), ()), ((), start(BARE, ())))
        assert_same(self, run(BARE, (), (), (1, 2, 3)), ((), start(BARE, ())))
        moves, stand = run(SQUARE, LONG, (1,) * 400, ())
        assert_same(self, moves, (("in", 0),) * 400 + (("over", 1),) * 400 + (("out", 1),) * 400)
        assert_same(self, stand, ((), TWO, TWO, 400))

    def test_a_dealing_that_does_not_work(self):
        moves, stand = run(SQUARE, (1, 0), (2, 2), ())
        assert_same(self, moves, (("in", 1), ("in", 1)))
        assert_same(self, stand, ((), ((), (1, 0)), TWO, 0))
        moves, stand = run(SQUARE, FALLEN, (3,) * 400, (5, 0, 7))
        assert_same(self, moves, (("in", 1),) * 400)
        assert_same(self, stand, ((), ((), FALLEN), TWO, 0))
        moves, stand = run(SQUARE, TOO_MUCH, TOO_MUCH_DEALT, ())
        self.assertEqual(not_over(stand), (2, 3, 5, 6, 7, 8, 9))

    def check(self, yard, row, dealing, picks):
        """The run is that of the words."""
        moves, stand = run(yard, row, dealing, picks)
        assert_same(self, (moves, stand), run_by_rule(yard, row, dealing, picks))
        self.assertEqual(begun(yard, row), start(yard, row))
        if order(yard, row, dealing) is None:
            self.assertFalse(all_home(stand))
        else:
            self.assertTrue(all_home(stand))
            self.assertEqual(len(moves), 3 * len(row))
        return not_over(stand)

    def test_all_dealings_of_short_rows(self):
        dice = dice_of(53)
        for yard, row, dealing in short_cases()[::5]:
            for _ in range(2):
                self.check(yard, row, dealing, tuple(dice.randrange(9) for _ in range(dice.randrange(14))))

    def test_every_run_stops_with_the_same_wagons_not_gone_over(self):
        dice = dice_of(54)
        stopped = 0
        for yard, row, dealing in some_cases(55, 150, 12):
            stops = set()
            for _ in range(4):
                picks = tuple(dice.randrange(60) for _ in range(3 * len(row)))
                stops.add(self.check(yard, row, dealing, picks))
            stops.add(self.check(yard, row, dealing, ()))
            self.assertEqual(len(stops), 1)
            stopped += stops != {()}
        self.assertGreater(stopped, 50)

    def test_all_ends_of_green_moves(self):
        for yard, row, dealing in short_cases()[::7] + some_cases(56, 60, 6):
            last, stands = last_stands(yard, row, dealing)
            self.assertEqual(len({not_over(stand) for stand in last}), 1)
            works = order(yard, row, dealing) is not None
            self.assertEqual([all_home(stand) for stand in last], [works] * len(last))
            self.assertIn(run(yard, row, dealing, (3, 1, 4, 1, 5))[1], last)
            for stand in stands:
                for move in greens(yard, row, dealing, stand):
                    self.assertIn(moved(yard, row, stand, move), stands)

    def test_a_dealing_works_exactly_if_nothing_waits_in_a_ring(self):
        for yard, row, dealing in short_cases()[::9] + some_cases(57, 100, 5):
            works = moves_lead_out(yard, row, dealing)
            assert_same(self, stuck(yard, row, dealing) is None, works)
            assert_same(self, all_home(run(yard, row, dealing, ())[1]), works)

    def test_rising_dealings_over_a_forest_come_home(self):
        yard = (2, 2, ((0, 0), (0, 1), (1, 1)))
        for row in permutations(range(4)):
            for dealing in product(range(3), repeat=4):
                pairs = [(x, y) for x in range(4) for y in range(x + 1, 4) if dealing[x] == dealing[y]]
                rises = all(row[x] < row[y] for x, y in pairs)
                assert_same(self, all_home(run(yard, row, dealing, (2, 7, 1, 8))[1]), rises)


class TimeTest(unittest.TestCase):

    def test_the_greatest_yard_and_row_in_seconds(self):
        dice = dice_of(58)
        before = monotonic()
        for many in (1, 4, 16):
            row = row_of_falls(400, many)
            dealing = plan(FULL, all_tracks(FULL), row)
            told = told_moves(FULL, row, dealing)
            self.assertEqual(len(told), 1200)
            for picks in ((), tuple(dice.randrange(1000) for _ in range(1200))):
                moves, stand = run(FULL, row, dealing, picks)
                self.assertEqual(len(moves), 1200)
                self.assertTrue(all_home(stand))
            run(FULL, FALLEN, some_dealing(dice, FULL, FALLEN), picks)
        self.assertLess(monotonic() - before, 30)


class RefusalTest(unittest.TestCase):

    def test_yards_rows_and_then_dealings(self):
        for thing, what in BAD_YARDS:
            assert_refused(self, BadYard, what, told_moves, thing, None, None)
            assert_refused(self, BadYard, what, run, thing, None, None, None)
        for thing, what in BAD_ROWS:
            assert_refused(self, BadRow, what, told_moves, SQUARE, thing, None)
            assert_refused(self, BadRow, what, run, SQUARE, thing, None, None)
        for thing, what in BAD_DEALINGS:
            assert_refused(self, BadDealing, what, told_moves, SQUARE, ROW, thing)
            assert_refused(self, BadDealing, what, run, SQUARE, ROW, thing, None)

    def test_picks_come_last(self):
        for thing, what in BAD_CHOICES:
            assert_refused(self, BadPicks, what, run, SQUARE, ROW, (0, 1, 2, 3), thing)
            assert_refused(self, BadPicks, what, run, BARE, (), (), thing)


if __name__ == "__main__":
    unittest.main()
