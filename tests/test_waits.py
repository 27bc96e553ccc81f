"""Waits, middle orders and rings of waits: points [4.2] to [4.6]."""

import unittest
from itertools import permutations, product

from trackworth.dealings import fallen
from trackworth.errors import BadDealing, BadRow, BadWagon, BadYard
from trackworth.kernel import order_right, stuck_right
from trackworth.rings import serves
from trackworth.rows import joined
from trackworth.waits import order, stuck, waits_for
from tests.support import (
    BARE, FULL, SQUARE, all_picks, assert_refused, assert_same, complete, dice_of, some_dealing, some_row, some_yard,
)
from tests.test_dealings import BAD_DEALINGS, ROW
from tests.test_rows import BAD_ROWS, FALLEN, LONG
from tests.test_yards import BAD_YARDS

TOO_MUCH = (9, 2, 1, 0, 5, 4, 3, 8, 7, 6)
TOO_MUCH_DEALT = (0, 1, 2, 3, 1, 2, 3, 1, 2, 3)


def waits_by_rule(yard, row, dealing):
    """For each wagon all wagons that it waits for, from the two cases of [4.2]."""
    lanes = {wagon: yard[2][t] for wagon, t in zip(row, dealing)}
    found = {}
    for x in row:
        found[x] = []
        for y in sorted(row):
            first = lanes[x][0] == lanes[y][0] and row.index(y) < row.index(x)
            second = lanes[x][1] == lanes[y][1] and y < x
            if first or second:
                found[x].append(y)
    return found


def told_by_rule(waits):
    """The wagons that can be told, always the least one."""
    told = []
    while True:
        free = [x for x in waits if x not in told and all(y in told for y in waits[x])]
        if not free:
            return told
        told.append(min(free))


def stuck_by_rule(yard, row, dealing):
    """The ring of waits of [4.5], by walking until a wagon comes again."""
    left = set(row) - set(told_by_rule(waits_by_rule(yard, row, dealing)))
    if not left:
        return None
    lanes = {wagon: yard[2][t] for wagon, t in zip(row, dealing)}
    walk = [min(left)]
    while walk[-1] not in walk[:-1]:
        x = walk[-1]
        ahead = [y for y in row[:row.index(x)] if y in left and lanes[y][0] == lanes[x][0]]
        lesser = [y for y in left if y < x and lanes[y][1] == lanes[x][1]]
        walk.append(ahead[-1] if ahead else min(lesser))
    ring = walk[walk.index(walk[-1]):-1]
    while ring[0] != min(ring):
        ring = ring[1:] + ring[:1]
    return tuple(ring)


def moves_lead_out(yard, row, dealing):
    """Whether some moves bring all wagons out in order, by trying all of them."""
    lanes = {wagon: yard[2][t] for wagon, t in zip(row, dealing)}
    start = (tuple(row), ((),) * yard[0], ((),) * yard[1], 0)
    found = {start}
    stands = [start]
    while stands:
        waiting, firsts, seconds, gone = stands.pop()
        if gone == len(row):
            return True
        after = []
        if waiting:
            a = lanes[waiting[0]][0]
            after.append((waiting[1:], put(firsts, a, firsts[a] + waiting[:1]), seconds, gone))
        for a, lane in enumerate(firsts):
            if lane:
                b = lanes[lane[0]][1]
                after.append((waiting, put(firsts, a, lane[1:]), put(seconds, b, seconds[b] + lane[:1]), gone))
        for b, lane in enumerate(seconds):
            if lane and lane[0] == gone:
                after.append((waiting, firsts, put(seconds, b, lane[1:]), gone + 1))
        for stand in after:
            if stand not in found:
                found.add(stand)
                stands.append(stand)
    return False


def put(lanes, at, lane):
    """The lanes with another one at this place."""
    return lanes[:at] + (lane,) + lanes[at + 1:]


def some_cases(seed, many, longest):
    """Yards that have tracks, rows and dealings."""
    dice = dice_of(seed)
    cases = []
    while len(cases) < many:
        yard = some_yard(dice, dice.choice((2, 3, 12)))
        if yard[2]:
            row = some_row(dice, longest)
            cases.append((yard, row, some_dealing(dice, yard, row)))
    return cases


def short_cases():
    """All dealings of all rows of at most four wagons over the yard SQUARE."""
    rows = [row for many in range(5) for row in permutations(range(many))]
    return [(SQUARE, row, dealing) for row in rows for dealing in product(range(4), repeat=len(row))]


class ExamplesTest(unittest.TestCase):

    def test_a_dealing_that_works(self):
        told = (SQUARE, (3, 2, 1, 0), (0, 1, 2, 3))
        for wagon, waited in enumerate(((1,), (), (0, 3), (1,))):
            assert_same(self, waits_for(*told, wagon), waited)
        assert_same(self, order(*told), (1, 0, 3, 2))
        assert_same(self, stuck(*told), None)

    def test_a_ring_of_waits(self):
        told = (SQUARE, (3, 0, 1, 2), (0, 1, 3, 2))
        for wagon, waited in enumerate(((3,), (0,), (1,), (2,))):
            assert_same(self, waits_for(*told, wagon), waited)
        assert_same(self, order(*told), None)
        assert_same(self, stuck(*told), (0, 3, 2, 1))

    def test_the_row_that_is_too_much(self):
        assert_same(self, fallen(SQUARE, TOO_MUCH, TOO_MUCH_DEALT), None)
        assert_same(self, stuck(SQUARE, TOO_MUCH, TOO_MUCH_DEALT), (2, 9, 7, 3))
        assert_same(self, order(SQUARE, TOO_MUCH, TOO_MUCH_DEALT), None)

    def test_the_row_without_wagons(self):
        for yard in (SQUARE, BARE, FULL):
            assert_same(self, order(yard, (), ()), ())
            assert_same(self, stuck(yard, (), ()), None)

    def test_a_single_wagon(self):
        assert_same(self, waits_for(SQUARE, (0,), (3,), 0), ())
        assert_same(self, order(SQUARE, (0,), (3,)), (0,))
        assert_same(self, stuck(SQUARE, (0,), (3,)), None)

    def test_a_fall_is_a_ring_of_two(self):
        assert_same(self, waits_for(SQUARE, (1, 0), (2, 2), 0), (1,))
        assert_same(self, waits_for(SQUARE, (1, 0), (2, 2), 1), (0,))
        assert_same(self, stuck(SQUARE, (1, 0), (2, 2)), (0, 1))
        assert_same(self, order(SQUARE, (1, 0), (2, 2)), None)

    def test_all_wagons_on_one_track(self):
        one = (0,) * 400
        assert_same(self, order(SQUARE, LONG, one), LONG)
        assert_same(self, stuck(SQUARE, LONG, one), None)
        assert_same(self, waits_for(SQUARE, LONG, one, 399), LONG[:399])
        assert_same(self, order(SQUARE, FALLEN, one), None)
        assert_same(self, stuck(SQUARE, FALLEN, one), LONG)
        assert_same(self, waits_for(SQUARE, FALLEN, one, 200), LONG[:200] + LONG[201:])

    def test_both_cases_at_once_count_once(self):
        assert_same(self, waits_for(SQUARE, (0, 1), (0, 0), 1), (0,))
        assert_same(self, waits_for(SQUARE, (2, 0, 1), (1, 0, 0), 1), (0, 2))

    def test_four_hundred_wagons_over_a_tree(self):
        yard = (2, 2, ((0, 0), (0, 1), (1, 1)))
        row = tuple(range(200, 400)) + tuple(range(200))
        dealing = (0,) * 200 + (1,) * 200
        assert_same(self, order(yard, row, dealing), row)
        assert_same(self, order(yard, row, (0,) * 200 + (2,) * 200), LONG)

    def test_arguments_by_name(self):
        assert_same(self, waits_for(yard=SQUARE, row=(1, 0), dealing=(2, 2), x=0), (1,))
        assert_same(self, order(yard=SQUARE, row=(1, 0), dealing=(0, 1)), (1, 0))
        assert_same(self, stuck(yard=SQUARE, row=(1, 0), dealing=(2, 2)), (0, 1))


class RulesTest(unittest.TestCase):

    def check(self, yard, row, dealing):
        """The three functions say what the points say."""
        waits = waits_by_rule(yard, row, dealing)
        for x in row:
            assert_same(self, waits_for(yard, row, dealing, x), tuple(waits[x]))
        told = tuple(told_by_rule(waits))
        found = stuck(yard, row, dealing)
        assert_same(self, order(yard, row, dealing), told if len(told) == len(row) else None)
        assert_same(self, found, stuck_by_rule(yard, row, dealing))
        assert_same(self, order(yard, row, dealing) is None, found is not None)
        if found is None:
            assert_same(self, order_right(yard, row, dealing, told), True)
            assert_same(self, fallen(yard, row, dealing), None)
        else:
            assert_same(self, stuck_right(yard, row, dealing, found), True)

    def test_all_dealings_of_short_rows(self):
        for yard, row, dealing in short_cases():
            self.check(yard, row, dealing)

    def test_dealings_of_longer_rows(self):
        for yard, row, dealing in some_cases(12, 400, 12):
            self.check(yard, row, dealing)
        for yard, row, dealing in some_cases(13, 10, 60):
            self.check(yard, row, dealing)

    def test_four_hundred_wagons(self):
        dice = dice_of(14)
        row = list(range(400))
        dice.shuffle(row)
        dealing = some_dealing(dice, FULL, row)
        assert_same(self, order(FULL, tuple(row), dealing), None)
        assert_same(self, stuck(FULL, tuple(row), dealing), stuck_by_rule(FULL, row, dealing))

    def test_a_dealing_works_exactly_if_it_has_a_middle_order(self):
        for yard, row, dealing in short_cases()[::3] + some_cases(15, 150, 5):
            assert_same(self, order(yard, row, dealing) is not None, moves_lead_out(yard, row, dealing))

    def test_rising_dealings_over_picks_without_a_ring_work(self):
        for pick in all_picks(SQUARE):
            if serves(SQUARE, pick):
                for row in permutations(range(4)):
                    for dealing in product(pick, repeat=4):
                        works = order(SQUARE, row, dealing) is not None
                        assert_same(self, works, fallen(SQUARE, row, dealing) is None)

    def test_no_dealing_over_a_ring_sorts_the_row_that_is_too_much(self):
        dice = dice_of(16)
        for _ in range(2000):
            assert_same(self, order(SQUARE, TOO_MUCH, some_dealing(dice, SQUARE, TOO_MUCH)), None)

    def test_dealings_of_joined_rows(self):
        dice = dice_of(17)
        for _ in range(200):
            yard = complete(2, 3)
            one, two = some_row(dice, 5), some_row(dice, 5)
            first, second = some_dealing(dice, yard, one), some_dealing(dice, yard, two)
            both = order(yard, joined(one, two), first + second)
            each = (order(yard, one, first), order(yard, two, second))
            assert_same(self, both is not None, each[0] is not None and each[1] is not None)


class RefusalTest(unittest.TestCase):

    def test_wagons_that_are_not_there(self):
        for x in (4, 5, -1, 10 ** 30, True, False, None, "0", "", (), (0,)):
            assert_refused(self, BadWagon, x, waits_for, SQUARE, ROW, (0, 1, 2, 3), x)
        assert_refused(self, BadWagon, 0, waits_for, SQUARE, (), (), 0)
        assert_refused(self, BadWagon, 400, waits_for, SQUARE, LONG, (0,) * 400, 400)

    def test_dealings(self):
        for thing, what in BAD_DEALINGS:
            assert_refused(self, BadDealing, what, waits_for, SQUARE, ROW, thing, -1)
            assert_refused(self, BadDealing, what, order, SQUARE, ROW, thing)
            assert_refused(self, BadDealing, what, stuck, SQUARE, ROW, thing)

    def test_rows(self):
        for thing, what in BAD_ROWS:
            assert_refused(self, BadRow, what, waits_for, SQUARE, thing, None, -1)
            assert_refused(self, BadRow, what, order, SQUARE, thing, None)
            assert_refused(self, BadRow, what, stuck, SQUARE, thing, None)

    def test_yards(self):
        for thing, what in BAD_YARDS:
            assert_refused(self, BadYard, what, waits_for, thing, None, None, -1)
            assert_refused(self, BadYard, what, order, thing, None, None)
            assert_refused(self, BadYard, what, stuck, thing, None, None)


if __name__ == "__main__":
    unittest.main()
