"""Layers, falls and falling wagons: points [3.1], [3.2], [3.3] and [3.5]."""

import unittest
from itertools import combinations, permutations

from trackworth.errors import BadRow
from trackworth.falls import falling, falling_right, falls, layers
from trackworth.rows import joined
from tests.support import assert_judges, assert_refused, assert_same, dice_of, some_row
from tests.test_rows import BAD_ROWS, FALLEN, GOOD_ROWS, LONG

EXAMPLE = (3, 0, 4, 2, 1)


def is_falling(row, wagons):
    """Whether, of each two of the wagons, the one that is ahead is the greater one."""
    for one, other in combinations(wagons, 2):
        ahead, behind = (one, other) if row.index(one) < row.index(other) else (other, one)
        if ahead < behind:
            return False
    return True


def falling_lots(row):
    """All lots of falling wagons, in the order of the row."""
    return [lot for many in range(len(row) + 1) for lot in combinations(row, many) if is_falling(row, lot)]


def layers_by_rule(row):
    """The layers, from the layers of all places ahead."""
    found = []
    for place, wagon in enumerate(row):
        found.append(max([found[at] + 1 for at in range(place) if row[at] > wagon], default=0))
    return tuple(found)


def falling_by_rule(row):
    """The wagons of [3.3], told one after the other from the last one."""
    heights = layers_by_rule(row)
    if not row:
        return ()
    place = min(at for at in range(len(row)) if heights[at] == max(heights))
    found = [row[place]]
    while heights[place] > 0:
        place = max(at for at in range(place) if heights[at] == heights[place] - 1 and row[at] > row[place])
        found.insert(0, row[place])
    return tuple(found)


class LayersTest(unittest.TestCase):

    def test_the_example(self):
        assert_same(self, layers(EXAMPLE), (0, 1, 0, 1, 2))
        assert_same(self, falls(EXAMPLE), 3)
        assert_same(self, falling(EXAMPLE), (4, 2, 1))
        assert_same(self, falls(()), 0)

    def test_edges(self):
        for row, heights, many, lot in (
            ((), (), 0, ()), ((0,), (0,), 1, (0,)), (LONG, (0,) * 400, 1, (0,)), (FALLEN, LONG, 400, FALLEN),
            ((0, 1), (0, 0), 1, (0,)), ((1, 0), (0, 1), 2, (1, 0)),
        ):
            assert_same(self, layers(row), heights)
            assert_same(self, falls(row), many)
            assert_same(self, falling(row), lot)

    def test_all_short_rows_by_all_lots(self):
        for many in range(7):
            for row in permutations(range(many)):
                lots = falling_lots(row)
                heights = tuple(max(len(lot) for lot in lots if lot and lot[-1] == wagon) - 1 for wagon in row)
                assert_same(self, layers(row), heights)
                assert_same(self, falls(row), max(len(lot) for lot in lots))
                self.assertEqual(len(falling(row)), falls(row))
                self.assertIn(falling(row), lots)

    def test_the_wagons_that_are_told(self):
        assert_same(self, falling((1, 0, 3, 2)), (1, 0))
        assert_same(self, falling((2, 3, 0, 1)), (3, 0))
        assert_same(self, falling((1, 2, 0)), (2, 0))
        assert_same(self, falling((2, 1, 3, 0)), (2, 1, 0))
        assert_same(self, falling((3, 1, 2, 0)), (3, 2, 0))

    def test_rows_by_the_rules(self):
        dice = dice_of(8)
        rows = [row for many in range(7) for row in permutations(range(many))]
        rows += [some_row(dice, 60) for _ in range(300)] + [some_row(dice, 400) for _ in range(3)]
        for row in rows:
            heights = layers_by_rule(row)
            assert_same(self, layers(row), heights)
            assert_same(self, falls(row), len(set(heights)))
            assert_same(self, falling(row), falling_by_rule(row))
            assert_same(self, falling_right(row, falling(row)), True)

    def test_the_wagons_of_a_layer_rise(self):
        dice = dice_of(9)
        for _ in range(50):
            row = some_row(dice, 60)
            heights = layers(row)
            for layer in range(falls(row)):
                lot = [wagon for wagon, height in zip(row, heights) if height == layer]
                self.assertEqual(lot, sorted(lot))
                self.assertTrue(lot)

    def test_joined_rows_have_the_falls_of_the_greater_one(self):
        dice = dice_of(10)
        for _ in range(100):
            one = some_row(dice, 20)
            two = some_row(dice, 20)
            assert_same(self, falls(joined(one, two)), max(falls(one), falls(two)))

    def test_bad_rows(self):
        for thing, what in BAD_ROWS:
            for function in (layers, falls, falling):
                assert_refused(self, BadRow, what, function, thing)

    def test_arguments_by_name(self):
        assert_same(self, layers(row=(1, 0)), (0, 1))
        assert_same(self, falls(row=(1, 0)), 2)
        assert_same(self, falling(row=(1, 0)), (1, 0))
        assert_same(self, falling_right(row=(1, 0), thing=(1, 0)), True)


class FallingRightTest(unittest.TestCase):

    def test_the_example(self):
        assert_same(self, falling_right(EXAMPLE, (3, 1)), True)
        assert_same(self, falling_right(EXAMPLE, (2, 4)), False)

    def test_no_wagons_and_one_wagon(self):
        for row in GOOD_ROWS:
            assert_same(self, falling_right(row, ()), True)
            for wagon in row[:1] + row[-1:]:
                assert_same(self, falling_right(row, (wagon,)), True)
                assert_same(self, falling_right(row, (wagon, wagon)), False)
            assert_same(self, falling_right(row, (len(row),)), False)

    def test_just_the_falling_lots_of_short_rows(self):
        for many in range(5):
            for row in permutations(range(many)):
                lots = falling_lots(row)
                for few in range(many + 1):
                    for thing in permutations(range(many), few):
                        assert_same(self, falling_right(row, thing), thing in lots)

    def test_long_rows(self):
        assert_same(self, falling_right(FALLEN, FALLEN), True)
        assert_same(self, falling_right(FALLEN, FALLEN[::7]), True)
        assert_same(self, falling_right(FALLEN, LONG), False)
        assert_same(self, falling_right(LONG, FALLEN), False)
        assert_same(self, falling_right(LONG, LONG), False)
        assert_same(self, falling_right(FALLEN, FALLEN[:-1] + (1,)), False)

    def test_wrong_forms(self):
        for thing in ([3, 1], [], None, True, 3, "31", (3, True), (True,), (False,), (3, None), (3, "1"), ((3, 1),),
                      (3, -1), (5, 1), (-2,), (10 ** 30,), (3, 3), (3, 1, 1), (3, 3, 1)):
            assert_same(self, falling_right(EXAMPLE, thing), False)
        assert_same(self, falling_right((1, 0), (True, False)), False)

    def test_wrong_rows_give_false(self):
        for thing, _ in BAD_ROWS:
            assert_same(self, falling_right(thing, ()), False)
            assert_same(self, falling_right(thing, (0,)), False)

    def test_it_only_judges(self):
        assert_judges(self, falling_right, [(EXAMPLE, (3, 1)), ((), ())])


if __name__ == "__main__":
    unittest.main()
