"""Journals, cuts and engines: points [7] to [7.2] and [0.3] (e)."""

import copy
import inspect
import unittest

from trackworth.errors import (
    BadDealing, BadJournal, BadPicks, BadRow, BadStand, BadYard, Red, Spoilt,
)
from trackworth.journal import Engine, opened, replayed
from trackworth.moves import run, told_moves
from trackworth.plans import plan
from trackworth.signals import greens
from trackworth.stands import all_home, begun
from trackworth.waits import order
from trackworth.yards import all_tracks
from tests.model import after, all_moves, green_moves, not_over, some_stand, start
from tests.support import (
    BARE, FULL, SQUARE, assert_refused, assert_same, complete, dice_of, some_row, some_yard,
)
from tests.test_dealings import BAD_DEALINGS
from tests.test_engine import BAD_MOVES, YARD
from tests.test_plans import row_of_falls
from tests.test_rows import BAD_ROWS, FALLEN, LONG
from tests.test_stands import BAD_STANDS, GOOD_STANDS, ROW, TWO
from tests.test_waits import TOO_MUCH, TOO_MUCH_DEALT, short_cases, some_cases
from tests.test_yards import BAD_YARDS

ROAD = (1, 2, ((0, 0), (0, 1)))
HOME = ((), TWO, TWO, 2)
# Two wagons over the yard SQUARE by the dealing (0, 3), with the stand ahead of each move and behind the last one.
TOLD = (("in", 0), ("in", 1), ("over", 3), ("out", 1), ("over", 0), ("out", 0))
STANDS = (
    ((1, 0), TWO, TWO, 0), ((0,), ((1,), ()), TWO, 0), ((), ((1,), (0,)), TWO, 0), ((), ((1,), ()), ((), (0,)), 0),
    ((), ((1,), ()), TWO, 1), ((), TWO, ((1,), ()), 1), HOME,
)

NO_TUPLES = (None, True, False, 0, 3, "", "in", [], [("in", 0)], {})
NO_TRUTHS = (None, 0, 1, -1, "", "True", (), (True,), [], 2)


def some_journal(dice, yard, row, many):
    """Any moves that can be made from the beginning, with the stands ahead of each and behind the last one."""
    stands = [start(yard, row)]
    moves = []
    for _ in range(many):
        possible = [move for move in all_moves(yard) if after(yard, stands[-1], move) is not None]
        if not possible:
            break
        moves.append(dice.choice(possible))
        stands.append(after(yard, stands[-1], moves[-1]))
    return tuple(moves), stands


def some_journals(seed, many):
    """Yards, rows, journals that replay, and their stands."""
    dice = dice_of(seed)
    found = []
    for _ in range(many):
        yard = some_yard(dice, 3)
        row = some_row(dice, 7)
        found.append((yard, row) + some_journal(dice, yard, row, dice.randint(0, 21)))
    return found


class ReplayedTest(unittest.TestCase):

    def test_each_part_of_a_journal(self):
        for many, stand in enumerate(STANDS):
            assert_same(self, replayed(SQUARE, (1, 0), TOLD[:many]), stand)
        assert_same(self, replayed(yard=SQUARE, row=(1, 0), journal=TOLD), HOME)

    def test_the_empty_journal(self):
        for yard, row in ((BARE, ()), (SQUARE, ROW), (FULL, LONG)):
            assert_same(self, replayed(yard, row, ()), begun(yard, row))

    def test_moves_need_not_be_green(self):
        journal = (("in", 1), ("in", 1), ("over", 2), ("over", 3), ("out", 1))
        assert_same(self, replayed(SQUARE, (1, 0), journal), ((), TWO, ((1,), ()), 1))
        journal = (("in", 0), ("over", 1), ("in", 0), ("over", 1))
        assert_same(self, replayed(SQUARE, (1, 0), journal), ((), TWO, ((), (1, 0)), 0))

    def test_journals_of_all_kinds(self):
        for yard, row, journal, stands in some_journals(81, 200):
            for many in range(len(journal) + 1):
                assert_same(self, replayed(yard, row, journal[:many]), stands[many])

    def test_four_hundred_wagons(self):
        row = row_of_falls(400, 16)
        journal = told_moves(FULL, row, plan(FULL, all_tracks(FULL), row))
        assert_same(self, replayed(FULL, row, journal), ((), ((),) * 12, ((),) * 12, 400))
        assert_refused(self, BadJournal, 1200, replayed, FULL, row, journal + journal)

    def test_the_first_entry_that_cannot_be_made(self):
        for at in range(len(TOLD) + 1):
            for move in all_moves(SQUARE):
                if after(SQUARE, STANDS[at], move) is None:
                    assert_refused(self, BadJournal, at, replayed, SQUARE, (1, 0), TOLD[:at] + (move,) + TOLD[at:])
        assert_refused(self, BadJournal, 0, replayed, SQUARE, (1, 0), (("out", 0), ("out", 1)))
        assert_refused(self, BadJournal, 2, replayed, SQUARE, (1, 0), (("in", 0), ("over", 0), ("out", 0)))
        assert_refused(self, BadJournal, 0, replayed, BARE, (), (("in", 0),))

    def test_entries_that_are_no_moves(self):
        for move in BAD_MOVES:
            assert_refused(self, BadJournal, 0, replayed, YARD, (0, 1), (move,))
            assert_refused(self, BadJournal, 1, replayed, YARD, (0, 1), (("in", 0), move, ("in", 0)))
            assert_refused(self, BadJournal, 2, replayed, YARD, (0, 1), (("in", 0), ("over", 1), move, None))

    def test_what_is_no_tuple(self):
        for journal in NO_TUPLES:
            assert_refused(self, BadJournal, -1, replayed, SQUARE, (1, 0), journal)

    def test_yards_and_then_rows(self):
        for thing, what in BAD_YARDS:
            assert_refused(self, BadYard, what, replayed, thing, None, None)
        for thing, what in BAD_ROWS:
            assert_refused(self, BadRow, what, replayed, SQUARE, thing, None)


class OpenedTest(unittest.TestCase):

    def test_the_example(self):
        journal = (("in", 0), ("over", 0))
        assert_same(self, opened(ROAD, (1, 0), journal, ((0,), ((1,),), ((), ()), 0)), (("in", 0),))
        assert_same(self, opened(ROAD, (1, 0), journal, ((0,), ((),), ((1,), ()), 0)), journal)
        stand = ((0,), ((),), ((1,), ()), 0)
        assert_same(self, opened(yard=ROAD, row=(1, 0), journal=journal, stand=stand), journal)

    def test_the_stands_of_a_journal(self):
        for many in range(len(TOLD) + 1):
            for at, stand in enumerate(STANDS):
                if at in (many, many - 1):
                    assert_same(self, opened(SQUARE, (1, 0), TOLD[:many], stand), TOLD[:at])
                else:
                    assert_refused(self, Spoilt, -1, opened, SQUARE, (1, 0), TOLD[:many], stand)

    def test_the_empty_journal(self):
        assert_same(self, opened(SQUARE, (1, 0), (), STANDS[0]), ())
        assert_same(self, opened(BARE, (), (), start(BARE, ())), ())
        for stand in STANDS[1:]:
            assert_refused(self, Spoilt, -1, opened, SQUARE, (1, 0), (), stand)

    def test_the_last_entry_may_be_anything(self):
        for many, stand in enumerate(STANDS):
            for last in BAD_MOVES + (("in", 0), ("over", 1), ("over", 2), ("out", 0), ("out", 1)):
                if not (isinstance(last, tuple) and after_or_none(stand, last)):
                    assert_same(self, opened(SQUARE, (1, 0), TOLD[:many] + (last,), stand), TOLD[:many])
                    if many > 0:
                        previous = STANDS[many - 1]
                        assert_refused(self, Spoilt, -1, opened, SQUARE, (1, 0), TOLD[:many] + (last,), previous)

    def test_an_entry_ahead_that_cannot_be_made_spoils_the_journal(self):
        for bad in (None, ("in", 2), ("out", 0), ("in", True), ["in", 0], ("over", 0)):
            for stand in STANDS:
                assert_refused(self, Spoilt, -1, opened, SQUARE, (1, 0), (bad, ("in", 0)), stand)
                assert_refused(self, Spoilt, -1, opened, SQUARE, (1, 0), (bad,) + TOLD, stand)
                assert_refused(self, Spoilt, -1, opened, SQUARE, (1, 0), (bad, None), stand)
            assert_same(self, opened(SQUARE, (1, 0), (bad,), STANDS[0]), ())

    def test_two_entries_too_many(self):
        for many in range(2, len(TOLD) + 1):
            assert_refused(self, Spoilt, -1, opened, SQUARE, (1, 0), TOLD[:many], STANDS[many - 2])
        assert_refused(self, Spoilt, -1, opened, SQUARE, (1, 0), TOLD + (("in", 0), ("in", 0)), HOME)

    def test_journals_of_all_kinds(self):
        dice = dice_of(82)
        for yard, row, journal, stands in some_journals(83, 200):
            assert_same(self, opened(yard, row, journal, stands[-1]), journal)
            if journal:
                assert_same(self, opened(yard, row, journal, stands[-2]), journal[:-1])
            for stand in stands[:-2] + [some_stand(dice, yard, row)]:
                if stand not in stands[-2:]:
                    assert_refused(self, Spoilt, -1, opened, yard, row, journal, stand)

    def test_what_is_no_tuple(self):
        for journal in NO_TUPLES:
            assert_refused(self, BadJournal, -1, opened, SQUARE, (1, 0), journal, None)
            assert_refused(self, BadJournal, -1, opened, SQUARE, (1, 0), journal, STANDS[0])

    def test_what_is_no_stand(self):
        for stand in BAD_STANDS:
            for journal in ((), (None,), (("in", 0),)):
                assert_refused(self, BadStand, -1, opened, SQUARE, ROW, journal, stand)
        # A stand of another row, and of another yard.
        assert_refused(self, BadStand, -1, opened, SQUARE, (0, 1), (), STANDS[0])
        assert_refused(self, BadStand, -1, opened, ROAD, (1, 0), (), STANDS[0])
        assert_refused(self, BadStand, -1, opened, SQUARE, (1, 0), (("in", 1),), ((0,), ((), (True,)), TWO, 0))

    def test_yards_and_then_rows(self):
        for thing, what in BAD_YARDS:
            assert_refused(self, BadYard, what, opened, thing, None, None, None)
        for thing, what in BAD_ROWS:
            assert_refused(self, BadRow, what, opened, SQUARE, thing, None, None)


def after_or_none(stand, move):
    """Whether the move can be made in the yard SQUARE; what is no move cannot."""
    return any(repr(move) == repr(told) for told in all_moves(SQUARE)) and after(SQUARE, stand, move) is not None


class EngineTest(unittest.TestCase):

    def assert_engine(self, engine, journal, stand, moves):
        """The engine tells just these."""
        assert_same(self, engine.journal(), journal)
        assert_same(self, engine.stand(), stand)
        assert_same(self, engine.greens(), moves)
        assert_same(self, engine.home(), all_home(stand))

    def test_the_example(self):
        engine = Engine(ROAD, (1, 0), (0, 1))
        self.assertIsNone(engine.do(("in", 0)))
        assert_same(self, engine.cut(("over", 0), False), ((("in", 0), ("over", 0)), ((0,), ((1,),), ((), ()), 0)))
        again = Engine.again(ROAD, (1, 0), (0, 1), (("in", 0), ("over", 0)), ((0,), ((1,),), ((), ()), 0))
        self.assert_engine(again, (("in", 0),), ((0,), ((1,),), ((), ()), 0), (("in", 0), ("over", 0)))

    def test_methods_and_their_arguments(self):
        wanted = {
            "stand": "self", "journal": "self", "greens": "self", "home": "self", "do": "self move",
            "cut": "self move done", "again": "yard row dealing journal stand", "__init__": "self yard row dealing",
        }
        for name, arguments in wanted.items():
            self.assertIn(name, vars(Engine))
            self.assertEqual(list(inspect.signature(getattr(Engine, name)).parameters), arguments.split(), name)
        self.assertIsInstance(vars(Engine)["again"], staticmethod)
        self.assertEqual(Engine.__module__, "trackworth.journal")

    def test_arguments_by_name(self):
        engine = Engine(yard=SQUARE, row=(1, 0), dealing=(0, 3))
        engine.do(move=("in", 0))
        journal, stand = engine.cut(move=("in", 1), done=True)
        again = Engine.again(yard=SQUARE, row=(1, 0), dealing=(0, 3), journal=journal, stand=stand)
        self.assert_engine(again, TOLD[:2], STANDS[2], (("over", 0), ("over", 3)))
        assert_same(self, engine.again(SQUARE, (1, 0), (0, 3), TOLD, HOME).home(), True)

    def test_it_begins_with_all_wagons_waiting(self):
        for yard, row, dealing in ((SQUARE, (1, 0), (0, 3)), (BARE, (), ()), (FULL, LONG, (59,) * 400)):
            moves = green_moves(yard, row, dealing, start(yard, row))
            self.assert_engine(Engine(yard, row, dealing), (), start(yard, row), moves)
        assert_same(self, Engine(BARE, (), ()).home(), True)

    def test_it_makes_green_moves(self):
        engine = Engine(SQUARE, (1, 0), (0, 3))
        for many, move in enumerate(TOLD):
            self.assert_engine(engine, TOLD[:many], STANDS[many], greens(SQUARE, (1, 0), (0, 3), STANDS[many]))
            assert_same(self, engine.do(move), None)
        self.assert_engine(engine, TOLD, HOME, ())

    def test_red_moves_and_what_is_no_move(self):
        engine = Engine(YARD, (1, 0), (1, 2))
        for step in (("in", 0), ("in", 1), ("over", 1), ("over", 2), ("out", 0), ("out", 2)):
            told = (engine.journal(), engine.stand(), engine.greens())
            wrong = [move for move in all_moves(YARD) if move not in told[2]] + list(BAD_MOVES)
            # To Python these are equal to moves, and 1 and 0 are never taken for True and False.
            wrong += [(kind, bool(at)) for kind, at in told[2] if at in (0, 1)]
            for move in wrong:
                assert_refused(self, Red, move, engine.do, move)
                for done in (True, False, None, 1, 0):
                    assert_refused(self, Red, move, engine.cut, move, done)
                self.assert_engine(engine, *told)
            engine.do(step)
        self.assert_engine(engine, (("in", 0), ("in", 1), ("over", 1), ("over", 2), ("out", 0), ("out", 2)),
                           ((), TWO, ((), (), ()), 2), ())
        for move in all_moves(YARD) + list(BAD_MOVES):
            assert_refused(self, Red, move, engine.do, move)
            assert_refused(self, Red, move, engine.cut, move, True)

    def test_a_cut_before_and_after_the_move(self):
        engine = Engine(SQUARE, (1, 0), (0, 3))
        for many, move in enumerate(TOLD):
            found = greens(SQUARE, (1, 0), (0, 3), STANDS[many])
            assert_same(self, engine.cut(move, False), (TOLD[:many + 1], STANDS[many]))
            assert_same(self, engine.cut(move, True), (TOLD[:many + 1], STANDS[many + 1]))
            self.assert_engine(engine, TOLD[:many], STANDS[many], found)
            engine.do(move)

    def test_done_is_true_or_false(self):
        engine = Engine(SQUARE, (1, 0), (0, 3))
        for done in NO_TRUTHS:
            assert_refused(self, BadPicks, 0, engine.cut, ("in", 0), done)
            assert_refused(self, Red, ("in", 1), engine.cut, ("in", 1), done)
            self.assert_engine(engine, (), STANDS[0], (("in", 0),))

    def test_what_is_handed_out_is_not_changed_by_later_moves(self):
        engine = Engine(SQUARE, (1, 0), (0, 3))
        handed = []
        for move in TOLD:
            told = (engine.journal(), engine.stand(), engine.greens(), engine.cut(move, True), engine.cut(move, False))
            handed.append((told, copy.deepcopy(told)))
            engine.do(move)
        for told, before in handed:
            assert_same(self, told, before)

    def test_what_is_handed_out_is_fresh(self):
        handed = (SQUARE, (1, 0), (0, 3), TOLD[:2], STANDS[2])
        engine = Engine.again(*handed)
        for told in (engine.journal, engine.stand, engine.greens):
            self.assertIsNot(told(), told())
            for thing in handed:
                self.assertIsNot(told(), thing)
        self.assertIsNot(opened(*handed[:2], *handed[3:]), handed[3])

    def test_what_is_handed_in_is_not_changed(self):
        handed = (SQUARE, (1, 0), (0, 3), TOLD[:2], STANDS[2])
        before = copy.deepcopy(handed)
        engine = Engine.again(*handed)
        for move in TOLD[2:]:
            engine.cut(move, True)
            engine.do(move)
        assert_same(self, handed, before)
        self.assert_engine(engine, TOLD, HOME, ())

    def test_engines_know_nothing_of_one_another(self):
        one, two = Engine(SQUARE, (1, 0), (0, 3)), Engine(SQUARE, (1, 0), (0, 3))
        one.do(("in", 0))
        self.assert_engine(two, (), STANDS[0], (("in", 0),))
        again = Engine.again(SQUARE, (1, 0), (0, 3), one.journal(), one.stand())
        again.do(("over", 0))
        self.assert_engine(one, TOLD[:1], STANDS[1], (("in", 1), ("over", 0)))

    def test_yards_rows_and_then_dealings(self):
        for thing, what in BAD_YARDS:
            assert_refused(self, BadYard, what, Engine, thing, None, None)
            assert_refused(self, BadYard, what, Engine.again, thing, None, None, None, None)
        for thing, what in BAD_ROWS:
            assert_refused(self, BadRow, what, Engine, SQUARE, thing, None)
            assert_refused(self, BadRow, what, Engine.again, SQUARE, thing, None, None, None)
        for thing, what in BAD_DEALINGS:
            assert_refused(self, BadDealing, what, Engine, SQUARE, ROW, thing)
            assert_refused(self, BadDealing, what, Engine.again, SQUARE, ROW, thing, None, None)


class AgainTest(unittest.TestCase):

    def assert_again(self, told, journal, stand, kept):
        """The engine that is made again has this stand and the journal that belongs to it."""
        engine = Engine.again(*told, journal, stand)
        assert_same(self, engine.journal(), kept)
        assert_same(self, engine.stand(), stand)
        assert_same(self, engine.greens(), greens(*told, stand))
        assert_same(self, engine.home(), all_home(stand))
        assert_same(self, replayed(*told[:2], kept), stand)
        return engine

    def test_stands_of_the_journal(self):
        told = (SQUARE, (1, 0), (0, 3))
        for many in range(len(TOLD) + 1):
            self.assert_again(told, TOLD[:many], STANDS[many], TOLD[:many])
            if many > 0:
                self.assert_again(told, TOLD[:many], STANDS[many - 1], TOLD[:many - 1])
            self.assert_again(told, TOLD[:many] + (None,), STANDS[many], TOLD[:many])

    def test_journals_of_red_moves(self):
        # Wagon 1 was put into a wrong lane, where no signal lets it over.
        journal = (("in", 1), ("in", 1))
        engine = self.assert_again((SQUARE, (1, 0), (0, 3)), journal, ((), ((), (1, 0)), TWO, 0), journal)
        assert_same(self, engine.greens(), ())
        dice = dice_of(84)
        for yard, row, journal, stands in some_journals(85, 80):
            if yard[2] or not row:
                dealing = tuple(dice.randrange(len(yard[2])) for _ in row)
                self.assert_again((yard, row, dealing), journal, stands[-1], journal)
                self.assert_again((yard, row, dealing), journal + (("in", 12),), stands[-1], journal)

    def test_errors_of_opened(self):
        told = (SQUARE, ROW, (0, 1, 2, 3))
        for journal in NO_TUPLES:
            assert_refused(self, BadJournal, -1, Engine.again, *told, journal, None)
        for stand in BAD_STANDS:
            assert_refused(self, BadStand, -1, Engine.again, *told, (None, None), stand)
        for stand in GOOD_STANDS[1:]:
            assert_refused(self, Spoilt, -1, Engine.again, *told, (), stand)
        assert_refused(self, Spoilt, -1, Engine.again, *told, (None, None), GOOD_STANDS[0])

    def drive(self, yard, row, dealing, dice, chance):
        """Go on through cuts, at this chance in ten at each place, until no move is green."""
        told = (yard, row, dealing)
        engine = Engine(*told)
        made = ()
        while engine.greens():
            move = dice.choice(engine.greens())
            if dice.randrange(10) < chance:
                done = dice.random() < 0.5
                journal, stand = engine.cut(move, done)
                assert_same(self, journal, made + (move,))
                made = journal if done else made
                engine = self.assert_again(told, journal, stand, made)
            else:
                engine.do(move)
                made += (move,)
                assert_same(self, engine.journal(), made)
        self.assertEqual(replayed(yard, row, made), engine.stand())
        return engine

    def test_everything_goes_on_through_any_number_of_cuts(self):
        dice = dice_of(86)
        for yard, row, dealing in short_cases()[::9] + some_cases(87, 60, 9):
            works = order(yard, row, dealing) is not None
            stopped = not_over(run(yard, row, dealing, ())[1])
            for chance in (0, 3, 9):
                engine = self.drive(yard, row, dealing, dice, chance)
                assert_same(self, engine.home(), works)
                self.assertEqual(not_over(engine.stand()), stopped)
                if works:
                    self.assertEqual(len(engine.journal()), 3 * len(row))

    def test_a_cut_at_each_place_of_a_run(self):
        for yard, row, dealing in (
            (SQUARE, (1, 0), (0, 3)), (SQUARE, (3, 2, 1, 0), (0, 1, 2, 3)), (SQUARE, TOO_MUCH, TOO_MUCH_DEALT),
            (complete(2, 3), (5, 2, 1, 0, 4, 3), (0, 1, 2, 3, 1, 2)),
        ):
            moves, last = run(yard, row, dealing, (5, 3, 1, 4))
            for at, move in enumerate(moves):
                engine = Engine(yard, row, dealing)
                for made in moves[:at]:
                    engine.do(made)
                for done in (False, True):
                    journal, stand = engine.cut(move, done)
                    again = self.assert_again((yard, row, dealing), journal, stand, moves[:at + done])
                    for left in moves[at + done:]:
                        again.do(left)
                    assert_same(self, again.journal(), moves)
                    assert_same(self, again.stand(), last)

    def test_cuts_one_after_the_other_without_getting_on(self):
        told = (SQUARE, (3, 2, 1, 0), (0, 1, 2, 3))
        engine = Engine(*told)
        for move in told_moves(*told):
            kept = engine.journal()
            for _ in range(5):
                engine = self.assert_again(told, *engine.cut(move, False), kept)
            engine = self.assert_again(told, *engine.cut(move, True), kept + (move,))
        assert_same(self, engine.home(), True)
        assert_same(self, engine.journal(), told_moves(*told))

    def test_four_hundred_wagons(self):
        row = row_of_falls(400, 16)
        told = (FULL, row, plan(FULL, all_tracks(FULL), row))
        moves = told_moves(*told)
        engine = Engine(*told)
        for at, move in enumerate(moves):
            if at % 100 == 50:
                engine = self.assert_again(told, *engine.cut(move, at % 200 == 50), moves[:at + (at % 200 == 50)])
            if len(engine.journal()) == at:
                engine.do(move)
        assert_same(self, engine.journal(), moves)
        assert_same(self, engine.home(), True)
        assert_refused(self, Red, ("in", 0), engine.do, ("in", 0))
        assert_same(self, Engine(FULL, FALLEN, (0,) * 400).greens(), (("in", 0),))


if __name__ == "__main__":
    unittest.main()
