"""The judges of papers: points [4.3], [4.7], [8.1], [9.1] and [9.2]."""

import ast
import unittest
from itertools import permutations, product
from pathlib import Path

from trackworth.dealings import fallen
from trackworth.kernel import cheapest_right, order_right, refuted_right, stuck_right
from trackworth.rings import serves
from trackworth.waits import order, stuck
from trackworth.webs import rank
from trackworth.yards import all_tracks
from tests.support import (
    BARE, FULL, SQUARE, all_picks, assert_judges, assert_same, complete, dice_of, some_pick, some_yard, yard_of_ring,
)
from tests.test_dealings import BAD_DEALINGS
from tests.test_rows import BAD_ROWS, FALLEN, LONG
from tests.test_waits import TOO_MUCH, TOO_MUCH_DEALT, short_cases, some_cases, waits_by_rule
from tests.test_webs import BAD_PICKS
from tests.test_yards import BAD_YARDS

WORKING = (SQUARE, (3, 2, 1, 0), (0, 1, 2, 3))
RINGED = (SQUARE, (3, 0, 1, 2), (0, 1, 3, 2))

# No tuples of wagons of a row of four.
BAD_WAGONS = (
    None, True, 0, "", "0123", [], [0, 1, 2, 3], [3, 2, 1, 0], (0, 1, 2, 4), (-1, 0, 1, 2), (0, 1, 2, 3, 4),
    (False, True, 2, 3), (3, 2, True, 0), (3, 2, 1, False), (0, 1, 2, "3"), (0, 1, 2, None), (0, 1, 2, (3,)),
    (0, 1, 2, 2), (0, 0, 1, 1), (0, 0), ((0, 1, 2, 3),),
)


def keeps_all_waits(waits, thing):
    """Whether each wagon comes behind all wagons that it waits for."""
    return all(thing.index(y) < thing.index(x) for x in waits for y in waits[x])


def is_ring_of_waits(waits, thing):
    """Whether each wagon waits for the next one, and the last one for the first one."""
    return len(thing) > 1 and all(thing[(at + 1) % len(thing)] in waits[x] for at, x in enumerate(thing))


class WrongPlaces:
    """What all judges of dealings say if an argument ahead has a wrong form."""

    def assert_false_for_wrong_arguments(self, judge, right):
        """The right paper is refused beside a wrong yard, row or dealing."""
        yard, row, dealing, thing = right
        assert_same(self, judge(yard, row, dealing, thing), True)
        for wrong, _ in BAD_YARDS:
            assert_same(self, judge(wrong, row, dealing, thing), False)
        for wrong, _ in BAD_ROWS:
            assert_same(self, judge(yard, wrong, dealing, thing), False)
        for wrong, _ in BAD_DEALINGS:
            assert_same(self, judge(yard, row, wrong, thing), False)
        assert_same(self, judge(yard, list(row), dealing, thing), False)
        assert_same(self, judge(yard, row, list(dealing), thing), False)


class OrderRightTest(unittest.TestCase, WrongPlaces):

    def test_the_example(self):
        assert_same(self, order_right(*WORKING, (1, 3, 0, 2)), True)
        assert_same(self, order_right(*WORKING, (1, 0, 3, 2)), True)
        assert_same(self, order_right(*WORKING, (0, 1, 3, 2)), False)

    def test_edges(self):
        assert_same(self, order_right(BARE, (), (), ()), True)
        assert_same(self, order_right(BARE, (), (), (0,)), False)
        assert_same(self, order_right(SQUARE, (0,), (3,), (0,)), True)
        assert_same(self, order_right(SQUARE, (0,), (3,), ()), False)
        assert_same(self, order_right(SQUARE, LONG, (0,) * 400, LONG), True)
        assert_same(self, order_right(SQUARE, LONG, (0,) * 400, LONG[:399]), False)
        assert_same(self, order_right(SQUARE, LONG, (0,) * 400, (1, 0) + LONG[2:]), False)
        assert_same(self, order_right(SQUARE, FALLEN, (0,) * 400, LONG), False)
        assert_same(self, order_right(SQUARE, FALLEN, (0,) * 400, FALLEN), False)
        assert_same(self, order_right(SQUARE, LONG + (400,), (0,) * 401, LONG + (400,)), False)
        assert_same(self, order_right(yard=SQUARE, row=(0,), dealing=(3,), thing=(0,)), True)

    def test_lanes_of_both_sorts_are_told_apart(self):
        yard = (2, 2, ((0, 1), (1, 0)))
        for thing in ((0, 1), (1, 0)):
            assert_same(self, order_right(yard, (1, 0), (0, 1), thing), True)
            assert_same(self, order_right(yard, (1, 0), (1, 0), thing), True)

    def test_just_the_middle_orders_of_short_rows(self):
        for yard, row, dealing in short_cases():
            waits = waits_by_rule(yard, row, dealing)
            for thing in permutations(row):
                assert_same(self, order_right(yard, row, dealing, thing), keeps_all_waits(waits, thing))
            assert_same(self, order_right(yard, row, dealing, tuple(row)[1:]), not row)
            if row:
                assert_same(self, order_right(yard, row, dealing, tuple(row)[:-1] + tuple(row)[:1]), len(row) == 1)

    def test_longer_rows(self):
        dice = dice_of(18)
        right = 0
        for yard, row, dealing in some_cases(19, 300, 9):
            waits = waits_by_rule(yard, row, dealing)
            told = order(yard, row, dealing)
            if told is not None and len(told) > 1:
                right += 1
                assert_same(self, order_right(yard, row, dealing, told), True)
                for at in range(len(told) - 1):
                    swapped = told[:at] + (told[at + 1], told[at]) + told[at + 2:]
                    assert_same(self, order_right(yard, row, dealing, swapped), keeps_all_waits(waits, swapped))
                    assert_same(self, order_right(yard, row, dealing, told[:at] + told[at + 1:]), False)
                    assert_same(self, order_right(yard, row, dealing, told[:at] + told[-1:] + told[at + 1:]), False)
            thing = tuple(dice.sample(range(len(row)), len(row)))
            assert_same(self, order_right(yard, row, dealing, thing), keeps_all_waits(waits, thing))
        self.assertGreater(right, 30)

    def test_wrong_forms(self):
        for thing in BAD_WAGONS:
            assert_same(self, order_right(*WORKING, thing), False)
        assert_same(self, order_right(SQUARE, (0, 1, 2, 3), (0, 0, 0, 0), (False, True, 2, 3)), False)
        assert_same(self, order_right(SQUARE, (0, 1, 2, 3), (0, 0, 0, 0), [0, 1, 2, 3]), False)

    def test_wrong_arguments_ahead(self):
        self.assert_false_for_wrong_arguments(order_right, WORKING + ((1, 3, 0, 2),))

    def test_it_only_judges(self):
        assert_judges(self, order_right, [WORKING + ((1, 3, 0, 2),), (BARE, (), (), ())])


class StuckRightTest(unittest.TestCase, WrongPlaces):

    def test_the_example(self):
        assert_same(self, stuck_right(*RINGED, (3, 2, 1, 0)), True)
        assert_same(self, stuck_right(*RINGED, (0, 1, 2, 3)), False)

    def test_each_beginning_is_right(self):
        for ring in ((0, 3, 2, 1), (3, 2, 1, 0), (2, 1, 0, 3), (1, 0, 3, 2)):
            assert_same(self, stuck_right(*RINGED, ring), True)
        for ring in ((2, 9, 7, 3), (9, 7, 3, 2), (7, 3, 2, 9), (3, 2, 9, 7)):
            assert_same(self, stuck_right(SQUARE, TOO_MUCH, TOO_MUCH_DEALT, ring), True)
            assert_same(self, stuck_right(SQUARE, TOO_MUCH, TOO_MUCH_DEALT, ring[::-1]), False)

    def test_longer_rings_than_needed(self):
        told = (SQUARE, (2, 1, 0), (0, 0, 0))
        for many in range(2, 4):
            for ring in permutations(range(3), many):
                assert_same(self, stuck_right(*told, ring), True)
        assert_same(self, stuck_right(*told, (0, 1, 2, 0)), False)
        assert_same(self, stuck_right(*told, (0, 1, 0, 2)), False)
        assert_same(self, stuck_right(SQUARE, FALLEN, (0,) * 400, LONG), True)
        assert_same(self, stuck_right(SQUARE, FALLEN, (0,) * 400, FALLEN), True)
        assert_same(self, stuck_right(SQUARE, FALLEN, (0,) * 400, (0, 399)), True)
        assert_same(self, stuck_right(SQUARE, LONG, (0,) * 400, LONG), False)

    def test_edges(self):
        assert_same(self, stuck_right(BARE, (), (), ()), False)
        assert_same(self, stuck_right(SQUARE, (0,), (0,), (0,)), False)
        assert_same(self, stuck_right(SQUARE, (0,), (0,), (0, 0)), False)
        assert_same(self, stuck_right(*RINGED, ()), False)
        assert_same(self, stuck_right(SQUARE, FALLEN, (0,) * 400, (0,)), False)
        assert_same(self, stuck_right(yard=SQUARE, row=(1, 0), dealing=(2, 2), thing=(1, 0)), True)

    def test_just_the_rings_of_short_rows(self):
        for yard, row, dealing in short_cases()[::2]:
            waits = waits_by_rule(yard, row, dealing)
            for many in range(len(row) + 1):
                for thing in permutations(row, many):
                    assert_same(self, stuck_right(yard, row, dealing, thing), is_ring_of_waits(waits, thing))

    def test_longer_rows(self):
        wrong = 0
        for yard, row, dealing in some_cases(20, 200, 12):
            waits = waits_by_rule(yard, row, dealing)
            ring = stuck(yard, row, dealing)
            if ring is None:
                continue
            for at in range(len(ring)):
                assert_same(self, stuck_right(yard, row, dealing, ring[at:] + ring[:at]), True)
                assert_same(self, stuck_right(yard, row, dealing, ring[:at] + ring[at:at + 1] + ring[at:]), False)
                for wagon in set(row) - set(ring):
                    changed = ring[:at] + (wagon,) + ring[at + 1:]
                    wrong += not is_ring_of_waits(waits, changed)
                    assert_same(self, stuck_right(yard, row, dealing, changed), is_ring_of_waits(waits, changed))
        self.assertGreater(wrong, 100)

    def test_wrong_forms(self):
        for thing in BAD_WAGONS:
            assert_same(self, stuck_right(*RINGED, thing), False)
        assert_same(self, stuck_right(SQUARE, (1, 0), (2, 2), (True, False)), False)
        assert_same(self, stuck_right(SQUARE, (1, 0), (2, 2), (1, False)), False)
        assert_same(self, stuck_right(SQUARE, (1, 0), (2, 2), [1, 0]), False)

    def test_wrong_arguments_ahead(self):
        self.assert_false_for_wrong_arguments(stuck_right, RINGED + ((3, 2, 1, 0),))

    def test_it_only_judges(self):
        assert_judges(self, stuck_right, [RINGED + ((3, 2, 1, 0),), (SQUARE, (1, 0), (2, 2), (1, 0))])


class RefutedRightTest(unittest.TestCase, WrongPlaces):

    def test_the_examples(self):
        told = (SQUARE, TOO_MUCH, TOO_MUCH_DEALT)
        assert_same(self, refuted_right(*told, ("ring", (2, 9, 7, 3))), True)
        assert_same(self, refuted_right(*told, ("ring", (7, 3, 2, 9))), True)
        assert_same(self, refuted_right(*told, ("ring", (2, 3, 7, 9))), False)
        assert_same(self, refuted_right(SQUARE, (1, 0), (2, 2), ("fall", (1, 0))), True)

    def test_each_reason_that_holds(self):
        told = (SQUARE, (4, 3, 1, 0, 2), (0, 0, 1, 1, 0))
        for pair in permutations(range(5), 2):
            holds = pair in ((4, 3), (4, 2), (3, 2), (1, 0))
            assert_same(self, refuted_right(*told, ("fall", pair)), holds)
        assert_same(self, refuted_right(*told, ("ring", (3, 4))), True)
        assert_same(self, refuted_right(*told, ("ring", (1, 0))), True)

    def test_just_the_reasons_of_short_rows(self):
        for yard, row, dealing in short_cases()[::3]:
            waits = waits_by_rule(yard, row, dealing)
            for many in range(len(row) + 1):
                for wagons in permutations(row, many):
                    falls = many == 2 and wagons[0] > wagons[1] and row.index(wagons[0]) < row.index(wagons[1])
                    falls = falls and dealing[row.index(wagons[0])] == dealing[row.index(wagons[1])]
                    assert_same(self, refuted_right(yard, row, dealing, ("fall", wagons)), falls)
                    ring = is_ring_of_waits(waits, wagons)
                    assert_same(self, refuted_right(yard, row, dealing, ("ring", wagons)), ring)

    def test_the_answers_for_longer_rows(self):
        for yard, row, dealing in some_cases(21, 200, 15):
            fall, ring = fallen(yard, row, dealing), stuck(yard, row, dealing)
            if fall is not None:
                assert_same(self, refuted_right(yard, row, dealing, ("fall", fall)), True)
                assert_same(self, refuted_right(yard, row, dealing, ("fall", fall[::-1])), False)
                assert_same(self, refuted_right(yard, row, dealing, ("fall", fall + fall[:1])), False)
            if ring is not None:
                assert_same(self, refuted_right(yard, row, dealing, ("ring", ring)), True)
                assert_same(self, refuted_right(yard, row, dealing, ("ring", ring[:-1] + (len(row),))), False)

    def test_wrong_forms(self):
        told = (SQUARE, (1, 0), (2, 2))
        for thing in (None, True, "fall", (), ("fall",), ("fall", (1, 0), ()), ["fall", (1, 0)], ("fall", [1, 0]),
                      ("fall", (True, False)), ("fall", (1, False)), ("fall", (1,)), ("fall", (1, 0, 0)),
                      ("fall", (1, 0, 2)), ("fall", (1, 1)), ("fall", (0, 0)), ("fall", (2, 0)), ("fall", (1, -1)),
                      ("fall", ("1", "0")), ("fall", None), ("Fall", (1, 0)), ("", (1, 0)), (None, (1, 0)),
                      ((1, 0), "fall"), ("fall", 1, 0), ("ring", [1, 0]), ("ring", (1,)), ("ring", ()), ("ring", None),
                      ("ring", (True, False)), ("ring", (1, 0, 1)), ("rings", (1, 0)), (0, (1, 0)), ("ring",)):
            assert_same(self, refuted_right(*told, thing), False)
        assert_same(self, refuted_right(BARE, (), (), ("ring", ())), False)
        assert_same(self, refuted_right(BARE, (), (), ("fall", ())), False)

    def test_edges(self):
        assert_same(self, refuted_right(SQUARE, FALLEN, (0,) * 400, ("fall", (399, 0))), True)
        assert_same(self, refuted_right(SQUARE, FALLEN, (0,) * 400, ("fall", (399, 400))), False)
        assert_same(self, refuted_right(SQUARE, LONG, (0,) * 400, ("fall", (399, 0))), False)
        assert_same(self, refuted_right(SQUARE, FALLEN, (0,) * 399 + (1,), ("fall", (399, 0))), False)
        assert_same(self, refuted_right(yard=SQUARE, row=(1, 0), dealing=(2, 2), thing=("ring", (0, 1))), True)

    def test_wrong_arguments_ahead(self):
        self.assert_false_for_wrong_arguments(refuted_right, RINGED + (("ring", (3, 2, 1, 0)),))
        self.assert_false_for_wrong_arguments(refuted_right, (SQUARE, (3, 2, 1, 0), (0, 0, 0, 0), ("fall", (3, 0))))

    def test_it_only_judges(self):
        assert_judges(self, refuted_right, [
            RINGED + (("ring", (3, 2, 1, 0)),), (SQUARE, (1, 0), (2, 2), ("fall", (1, 0))),
        ])


class CheapestRightTest(unittest.TestCase):

    def test_ordinary_picks(self):
        assert_same(self, cheapest_right(SQUARE, (5, 1, 1, 1), 3, (1, 2, 3)), True)
        assert_same(self, cheapest_right(SQUARE, (5, 1, 1, 1), 3, (0, 1, 2)), False)
        for pick in ((1, 2), (1, 3), (2, 3)):
            assert_same(self, cheapest_right(SQUARE, (5, 1, 1, 1), 2, pick), True)
        for pick in ((0, 1), (0, 2), (0, 3)):
            assert_same(self, cheapest_right(SQUARE, (5, 1, 1, 1), 2, pick), False)

    def test_edges(self):
        assert_same(self, cheapest_right(BARE, (), 0, ()), True)
        assert_same(self, cheapest_right(SQUARE, (0, 0, 0, 0), 0, ()), True)
        assert_same(self, cheapest_right(SQUARE, (999, 999, 999, 999), 1, (3,)), True)
        assert_same(self, cheapest_right(SQUARE, (0, 0, 0, 999), 3, (0, 1, 2)), True)
        assert_same(self, cheapest_right(SQUARE, (0, 0, 0, 0), 4, (0, 1, 2, 3)), False)
        assert_same(self, cheapest_right((1, 1, ((0, 0),)), (7,), 1, (0,)), True)
        assert_same(self, cheapest_right(yard=SQUARE, prices=(0, 0, 0, 0), m=1, pick=(2,)), True)
        assert_same(self, cheapest_right(FULL, (1,) * 60, 60, all_tracks(FULL)), False)
        assert_same(self, cheapest_right(FULL, (1,) * 60, 16, tuple(range(13)) + (24, 36, 48)), True)
        assert_same(self, cheapest_right(FULL, (2,) * 12 + (1,) * 48, 2, (0, 59)), False)

    def test_the_pick_has_exactly_m_tracks(self):
        for m in (-1, 0, 1, 3, 4, 60, 61):
            assert_same(self, cheapest_right(SQUARE, (1, 1, 1, 1), m, (0, 1)), False)
        assert_same(self, cheapest_right(SQUARE, (1, 1, 1, 1), 2, (0, 1)), True)

    def test_a_pick_with_a_ring_is_not_right(self):
        for many in range(4, 26, 2):
            yard = yard_of_ring(many)
            tracks = all_tracks(yard)
            assert_same(self, cheapest_right(yard, (3,) * many, many, tracks), False)
            for t in tracks:
                rest = tracks[:t] + tracks[t + 1:]
                assert_same(self, cheapest_right(yard, (3,) * many, many - 1, rest), True)
                prices = (3,) * t + (4,) + (3,) * (many - 1 - t)
                assert_same(self, cheapest_right(yard, prices, many - 1, rest), True)
                prices = (3,) * t + (2,) + (3,) * (many - 1 - t)
                assert_same(self, cheapest_right(yard, prices, many - 1, rest), False)

    def test_only_the_ring_of_a_track_is_compared(self):
        # The last track is in no ring, and dearer than all others.
        yard = (3, 3, ((0, 0), (0, 1), (1, 0), (1, 1), (2, 2)))
        assert_same(self, cheapest_right(yard, (1, 1, 1, 2, 9), 4, (0, 1, 2, 4)), True)
        assert_same(self, cheapest_right(yard, (1, 1, 1, 2, 9), 3, (0, 1, 2)), True)
        assert_same(self, cheapest_right(yard, (1, 1, 1, 2, 9), 3, (0, 1, 4)), False)
        assert_same(self, cheapest_right(yard, (2, 1, 1, 1, 0), 4, (0, 1, 2, 4)), False)
        assert_same(self, cheapest_right(yard, (1, 1, 1, 1, 0), 3, (0, 1, 2)), False)

    def test_just_the_picks_with_the_least_price(self):
        dice = dice_of(22)
        yards = [SQUARE, complete(2, 3), complete(3, 2), yard_of_ring(6)]
        for at in range(60):
            yard = yards[at] if at < len(yards) else some_yard(dice, 4, 7)
            prices = tuple(dice.randint(0, 3) for _ in yard[2])
            picks = all_picks(yard)
            sums = {pick: sum(prices[t] for t in pick) for pick in picks if serves(yard, pick)}
            for m in range(rank(yard, all_tracks(yard)) + 2):
                least = min([sums[pick] for pick in sums if len(pick) == m], default=None)
                for pick in picks:
                    right = len(pick) == m and pick in sums and sums[pick] == least
                    assert_same(self, cheapest_right(yard, prices, m, pick), right)

    def test_larger_yards(self):
        dice = dice_of(23)
        for _ in range(30):
            yard = some_yard(dice, 12)
            prices = tuple(dice.randint(0, 999) for _ in yard[2])
            taken = ()
            for t in sorted(all_tracks(yard), key=lambda u: (prices[u], u)):
                assert_same(self, cheapest_right(yard, prices, len(taken), taken), True)
                if serves(yard, tuple(sorted(taken + (t,)))):
                    taken = tuple(sorted(taken + (t,)))
            self.assertEqual(len(taken), rank(yard, all_tracks(yard)))
            least = sum(prices[t] for t in taken)
            pick = some_pick(dice, yard)
            right = len(pick) == len(taken) and serves(yard, pick) and sum(prices[t] for t in pick) == least
            assert_same(self, cheapest_right(yard, prices, len(taken), pick), right)

    def test_wrong_prices(self):
        for prices in (None, True, 0, "1111", (), (1, 1, 1), (1, 1, 1, 1, 1), [1, 1, 1, 1], (1, 1, 1, 1000),
                       (-1, 1, 1, 1), (1, True, 1, 1), (False, 1, 1, 1), (1, 1, "1", 1), (1, 1, None, 1),
                       (1, 1, (1,), 1), (10 ** 30, 1, 1, 1)):
            assert_same(self, cheapest_right(SQUARE, prices, 2, (1, 2)), False)
            assert_same(self, cheapest_right(SQUARE, prices, 0, ()), False)

    def test_wrong_numbers(self):
        for m in (None, "2", (2,), [2], -2, True, False):
            assert_same(self, cheapest_right(SQUARE, (1, 1, 1, 1), m, (1, 2)), False)
        assert_same(self, cheapest_right(SQUARE, (1, 1, 1, 1), True, (1,)), False)
        assert_same(self, cheapest_right(SQUARE, (1, 1, 1, 1), False, ()), False)

    def test_wrong_picks(self):
        for pick in BAD_PICKS:
            for m in range(6):
                assert_same(self, cheapest_right(SQUARE, (1, 1, 1, 1), m, pick), False)

    def test_wrong_yards(self):
        for thing, _ in BAD_YARDS:
            assert_same(self, cheapest_right(thing, (), 0, ()), False)
            assert_same(self, cheapest_right(thing, (1,), 0, ()), False)
            assert_same(self, cheapest_right(thing, (1, 1), 1, (0,)), False)
            assert_same(self, cheapest_right(thing, (1, 1, 1, 1), 2, (1, 2)), False)

    def test_it_only_judges(self):
        assert_judges(self, cheapest_right, [(SQUARE, (5, 1, 1, 1), 3, (1, 2, 3)), (BARE, (), 0, ())])


class KernelTest(unittest.TestCase):

    def test_it_leans_on_no_other_module(self):
        path = Path(__file__).resolve().parent.parent / "trackworth" / "kernel.py"
        for node in ast.walk(ast.parse(path.read_text("ascii"))):
            self.assertNotIsInstance(node, (ast.Import, ast.ImportFrom))

    def test_all_yards_that_are_taken(self):
        for yard in ((12, 12, ()), (1, 12, ((0, 11),)), (12, 1, ((0, 0), (11, 0))), FULL):
            assert_same(self, order_right(yard, (), (), ()), True)
            assert_same(self, cheapest_right(yard, (0,) * len(yard[2]), 0, ()), True)

    def test_wrong_yards_alone(self):
        for thing, _ in BAD_YARDS:
            assert_same(self, order_right(thing, (), (), ()), False)

    def test_wrong_rows_alone(self):
        for thing, _ in BAD_ROWS:
            many = len(thing) if isinstance(thing, tuple) else 0
            for told in ((), thing, tuple(range(many))):
                assert_same(self, order_right(SQUARE, thing, (0,) * many, told), False)

    def test_wrong_tracks_alone(self):
        for dealing in product((0, 3, 4, -1, True, None), repeat=2):
            right = all(type(t) is int and 0 <= t < 4 for t in dealing)
            waits = waits_by_rule(SQUARE, (0, 1), dealing) if right else {}
            for thing in ((0, 1), (1, 0)):
                assert_same(self, order_right(SQUARE, (0, 1), dealing, thing), right and keeps_all_waits(waits, thing))


if __name__ == "__main__":
    unittest.main()
