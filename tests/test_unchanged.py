"""Point 1: no argument is modified, returned lists are new, equal calls give equal results."""

import unittest
from copy import deepcopy

from plain import five_by_five, larger_boards, tiny_boards
from plainloads import mixed_load, mixed_strengths
from plainpictures import plain_seen

from wovenframes import (
    boards, builders, carrying, chains, deeds, drawings, dyes, firmness, holdweaves, joins, lattices, loadcuts, lostlogs, lots,
    mends, moments, motions, orders, pictures, plans, prices, readings, sheets, standing, stopped, strengths, surely, trials,
    workorders,
)
from wovenframes.boards import Board
from wovenframes.desks import Desk
from wovenframes.errors import WovenError



def boardless(call):
    """A call that is given a board ahead of its arguments, and leaves it out."""
    return lambda board, *rest: call(*rest)


# Each call with its arguments behind the board: a name stands for what `told_for` gives it.
PAIR = ("picture", "colours")
SIZED_LOTS = ("rows", "columns", "lots")
WITH_ITSELF = ("board", "shared")
WORK = ("builders", "state")
LOGGED = ("log", 1)
LISTS = (
    (boards.steps, ()), (chains.reached, (0,)), (chains.reaching, (0,)), (lots.closed_lots, ()), (lots.parts, ()),
    (lots.layers, ()), (strengths.tight_lots, ("strengths", "load")),
    (strengths.first_to_break, ("strengths", "load")), (loadcuts.all_cuts, ("load",)),
    (loadcuts.spared_cells, ("load",)), (motions.motions, (1,)), (lattices.lots_between, (0, 1)),
    (lattices.generators, ()), (lattices.made_by, ("threads",)), (lattices.idle_steps, ()),
    (boardless(pictures.free_cells), PAIR), (boardless(pictures.weaves), PAIR), (boardless(holdweaves.bridges), PAIR),
    (boardless(dyes.colours_for), ("picture",)), (joins.agreeing_lots, WITH_ITSELF), (drawings.lots_with, ((0,),)),
    (drawings.pieces, ()), (workorders.ends, ("builders",)), (moments.moments, ("changes", ("cut", 0, 0))),
    (stopped.stopped_boards, ("builders",)), (stopped.stopped_places, ("builders", "cells")), (trials.idle_cells, ()),
    (lostlogs.breaks_that_fit, LOGGED), (lostlogs.left_behind, LOGGED), (lostlogs.alike_breaks, (1,)),
    (deeds.deeds_to, ("turned",)),
)
VALUES = (
    (boards.flipped, ()), (boards.turned, ()), (boards.with_cell, (0, 0, "x")), (chains.leads, (0, 1)),
    (chains.chain, (0, 1)), (lots.is_closed, ((0,),)), (lots.least_closed, ((0,),)), (lots.holds, ()),
    (readings.lifting, ()), (readings.as_motion, ((),)), (readings.ring_row, ()), (readings.verdict, ()),
    (carrying.is_carried, ("load",)), (carrying.pulls, ("load",)), (carrying.least_pull, ("load",)),
    (carrying.barring_lot, ("load",)), (strengths.is_held, ("strengths", "load")),
    (strengths.holding, ("strengths", "load")), (strengths.strained_lot, ("strengths", "load")),
    (strengths.greatest_factor, ("strengths", "load")), (prices.least_price, ("strengths", "prices", "load")),
    (prices.cheapest, ("strengths", "prices", "load")), (prices.price_paper, ("strengths", "prices", "load")),
    (prices.greatest_pull, ("strengths", 0, 1)), (prices.narrowest, ("strengths", 0, 1)),
    (loadcuts.fewest_cuts, ("load",)), (loadcuts.fewest_fills, ("light",)), (loadcuts.first_fill, ("light",)),
    (motions.count_motions, (9,)), (motions.as_lots, ("motion",)), (motions.of_lots, (1, "heights")),
    (lattices.least_between, (0, 1)), (lattices.greatest_between, (0, 1)), (lattices.lean, ()),
    (boardless(lattices.board_of), SIZED_LOTS), (boardless(lattices.fewest_steps), SIZED_LOTS),
    (orders.count_orders, ()), (orders.order_at, (0,)), (orders.place_of, ("order",)), (pictures.seen, ("colours",)),
    (pictures.seen_behind, ("colours",)), (boardless(pictures.first_wrong), PAIR),
    (boardless(pictures.free_board), PAIR), (boardless(holdweaves.holding_weave), PAIR),
    (boardless(holdweaves.why_not), PAIR), (boardless(holdweaves.many_holding), PAIR),
    (dyes.told_colours, ("picture",)), (boardless(dyes.dyed), PAIR), (boardless(mends.first_mend), PAIR),
    (boardless(mends.mend_paper), PAIR), (joins.joined, WITH_ITSELF), (joins.places, WITH_ITSELF),
    (joins.first_apart, WITH_ITSELF), (joins.split_load, (*WITH_ITSELF, "load")), (drawings.drawn, ("threads",)),
    (drawings.drawn_to, ("threads",)), (drawings.bare, ()), (drawings.exchanged, ("threads",)),
    (drawings.alike, ("board",)), (builders.begun, ("builders",)), (builders.movers, WORK), (builders.acted, (*WORK, 0)),
    (standing.can_stand, ("threads",)), (standing.dividing_lot, ("threads",)),
    (workorders.state_behind, ("builders", ())), (workorders.order_to, ("builders", "cells")),
    (workorders.many_orders, ("builders",)), (workorders.first_stuck, ("builders",)), (firmness.firm_always, ("builders",)),
    (firmness.first_loose, ("builders",)), (firmness.firm_order, ("builders",)),
    (moments.latest, ("changes", ("cut", 0, 0))), (stopped.surely_done, ("builders", "cells")),
    (stopped.first_uncarried, ("builders", (), "load")), (trials.broken, ((),)), (trials.comes_along, ((), 1)),
    (trials.sight_of, ((), 1)), (trials.told_apart, ((), ())), (lostlogs.does_fit, ((), "log")),
    (lostlogs.sure_cells, LOGGED), (plans.plan, (1,)), (plans.fewest_trials, (1,)),
    (plans.shows_plan, (1, 9, ("end",))), (plans.best_trial, LOGGED), (plans.fewest_looks, (*LOGGED, 1)),
    (surely.surely_holds, LOGGED), (surely.may_hold, LOGGED), (surely.surely_carried, (*LOGGED, "load")),
    (surely.may_carry, (*LOGGED, "load")), (sheets.write, ("load", "strengths")), (deeds.replayed, ("replays",)),
    (deeds.fewest_deeds, ("turned",)),
)


def told_for(board, rest):
    """The arguments behind the board, with what stands for their names."""
    colours = ("a",) * board.rows + ("b",) * board.columns
    named = {
        "colours": colours,
        "picture": plain_seen(board, colours),
        "rows": board.rows,
        "columns": board.columns,
        "lots": lots.closed_lots(board),
        "order": tuple(lots.layers(board)),
        "threads": tuple(range(len(board))),
        "board": board,
        "shared": tuple((thread, thread) for thread in range(len(board))),
        "builders": ((("stand", 0), ("cut", 0, 0)), (("leave",),)),
        "state": (board.cells, (1, 0), (0, None)),
        "cells": board.cells,
        "changes": (("fill", 0, 0, "x"), ("cut", 0, 0)),
        "log": (("trial", 0, "?" * len(board)),),
        "turned": boards.turned(boards.flipped(board)),
        "replays": [("flip",), ("put", 0, 0, "x"), ("turn",)],
        "load": mixed_load(board, 3, 3),
        "light": (1, -1) + (0,) * (len(board) - 2),
        "strengths": mixed_strengths(board, 4, 9, 5),
        "prices": mixed_strengths(board, 5),
        "motion": (7,) * len(board),
        "heights": [((), 3), (tuple(range(len(board))), 4)],
    }
    return tuple(named.get(name, name) for name in rest)


def calls_for(board, calls):
    return [(call, told_for(board, rest)) for call, rest in calls]


class Unchanged(unittest.TestCase):
    def test_a_list_changed_by_the_caller(self):
        for board in [*list(tiny_boards())[::7], *list(larger_boards())[::3], *five_by_five()]:
            for call, rest in calls_for(board, LISTS):
                first = call(board, *rest)
                self.assertIs(first.__class__, list)
                kept = list(first)
                first.clear()
                first.append("changed")
                self.assertEqual(call(board, *rest), kept)

    def test_each_list_is_a_new_one(self):
        board = Board((">x", ".<"))
        for call, rest in calls_for(board, LISTS):
            self.assertIsNot(call(board, *rest), call(board, *rest))

    def test_what_is_no_list_cannot_be_changed(self):
        for board in [Board((">x", ".<")), *five_by_five()]:
            for call, rest in calls_for(board, VALUES):
                told = call(board, *rest)
                self.assertTrue(isinstance(told, (int, str, tuple, Board)) or told is None)
                if isinstance(told, tuple):
                    # A tuple of tuples all the way down has a place among the keys of a dict.
                    self.assertEqual({told: 1}, {told: 1})

    def test_equal_calls_give_equal_results(self):
        for board in [*list(larger_boards())[::7], *five_by_five()]:
            again = Board(tuple(board.cells))
            for call, rest in calls_for(board, (*LISTS, *VALUES)):
                self.assertEqual(call(board, *rest), call(again, *deepcopy(rest)))
                self.assertEqual(call(board, *rest), call(board, *rest))

    def test_the_arguments_stay_as_they_are(self):
        for board in [*list(larger_boards())[1::5], *five_by_five()]:
            cells = tuple(board.cells)
            for call, rest in calls_for(board, (*LISTS, *VALUES)):
                kept = deepcopy(rest)
                call(board, *rest)
                self.assertEqual(rest, kept)
            self.assertEqual((board.cells, board.rows, board.columns), (cells, len(cells), len(cells[0])))

    def test_heights_in_a_list_stay_as_they_are(self):
        board, heights = Board((">x", ".<")), [((0, 1, 3), 3), ((0, 3), 3)]
        told = motions.of_lots(board, -1, heights)
        self.assertEqual(heights, [((0, 1, 3), 3), ((0, 3), 3)])
        heights.clear()
        self.assertEqual(told, (5, 2, -1, 5))
        wrong = [((0, 3), 1), [1]]
        with self.assertRaises(WovenError):
            motions.of_lots(board, 0, wrong)
        self.assertEqual(wrong, [((0, 3), 1), [1]])

    def test_the_halves_of_a_parted_board_are_boards_of_their_own(self):
        board = Board((">x", ".<"))
        for half, again in zip(drawings.parted(board, 1), drawings.parted(board, 1)):
            self.assertIsInstance(half, Board)
            self.assertEqual(half, again)
        self.assertEqual(board.cells, (">x", ".<"))

    def test_lots_of_a_mend_paper_stay_as_they_are(self):
        some = [(0,), (1,)]
        self.assertIs(mends.shows_mend(("aa", "aa"), ("a", "a", "b", "b"), (((0, 0), (1, 1)), some)), True)
        self.assertEqual(some, [(0,), (1,)])

    def test_lots_in_a_list_stay_as_they_are(self):
        some = [(0, 1), (), (0,)]
        told = lattices.board_of(1, 1, some)
        self.assertEqual(some, [(0, 1), (), (0,)])
        some.clear()
        self.assertEqual(told.cells, (">",))
        wrong = [(), [0], (0, 1)]
        with self.assertRaises(WovenError):
            lattices.fewest_steps(1, 1, wrong)
        self.assertEqual(wrong, [(), [0], (0, 1)])

    def test_deeds_in_a_list_stay_as_they_are(self):
        board, some = Board((">x", ".<")), [("flip",), ("put", 0, 0, "x")]
        told = deeds.replayed(board, some)
        self.assertEqual(some, [("flip",), ("put", 0, 0, "x")])
        some.clear()
        self.assertEqual((told.cells, board.cells), (("x.", "x>"), (">x", ".<")))
        wrong = [("turn",), ["flip"]]
        with self.assertRaises(WovenError):
            deeds.replayed(board, wrong)
        self.assertEqual(wrong, [("turn",), ["flip"]])

    def test_inner_lists_changed_by_the_caller(self):
        board = Board(("xx", "x>"))
        told = lostlogs.alike_breaks(board, 2)
        kept = deepcopy(told)
        for group in told:
            group.reverse()
            group.append(None)
        self.assertEqual(lostlogs.alike_breaks(board, 2), kept)

    def test_what_a_desk_tells_is_its_own(self):
        board = Board((">x", ".<"))
        desk = Desk(board)
        told = (desk.own_board, desk.own_load, desk.own_strengths, desk.verdict())
        desk.shift(0, 1, 3)
        desk.put(0, 0, "x")
        self.assertEqual(told, (board, (0,) * 4, (1,) * 4, readings.verdict(board)))
        self.assertEqual((desk.own_load, desk.own_load), ((3, -3, 0, 0),) * 2)
        self.assertEqual(board.cells, (">x", ".<"))

    def test_values_that_are_only_told_of_stay_as_they_are(self):
        board, none = Board(("x",)), (0, 0)
        for call, rest in ((chains.shows_chain, (0, 1)), (readings.is_motion, ()), (readings.shows_ring, ()),
                           (readings.shows_verdict, ()), (carrying.shows_pulls, (none,)),
                           (strengths.shows_held, (none, none)), (prices.shows_price, (none, none, none)),
                           (boardless(holdweaves.shows_holding), (("a",), ("a", "a"))),
                           (boardless(holdweaves.shows_why), (("a",), ("a", "a"))),
                           (boardless(mends.is_mend), (("a",), ("a", "a"))),
                           (boardless(mends.shows_mend), (("a",), ("a", "a"))),
                           (joins.shows_split, (Board((".",)), ((0, 0), (1, 1)), (0, 0))), (plans.shows_plan, (1, 9))):
            for value, same in (([0, 1, 0], [0, 1, 0]), ({"lot": [0]}, {"lot": [0]}), (("lot", [0]), ("lot", [0])),
                                ([0, 0], [0, 0]), (((0, 0), [0, 0]), ((0, 0), [0, 0])), (((), [()]), ((), [()]))):
                self.assertIs(call(board, *rest, value), False)
                self.assertEqual(value, same)

    def test_a_call_that_raises_changes_nothing(self):
        board, cells, lot = Board((">x", ".<")), [">x", ".<"], [1, 0]
        for call, rest in ((boards.with_cell, (0, 0, ["x"])), (lots.is_closed, (lot,)), (lots.least_closed, (lot,)),
                           (readings.as_motion, ((0,),)), (readings.as_load, ((0,),)), (chains.chain, (0, 4)),
                           (carrying.pulls, (lot,)), (strengths.holding, (lot, lot)),
                           (prices.cheapest, (lot, lot, lot)), (loadcuts.all_cuts, (lot,)), (motions.as_lots, (lot,)),
                           (motions.of_lots, (0, lot)), (lattices.made_by, (lot,)), (orders.place_of, (lot,)),
                           (boardless(lattices.board_of), (1, 1, lot)), (pictures.seen, (lot,)),
                           (boardless(pictures.weaves), (("a",), lot)), (dyes.told_colours, (cells,)),
                           (boardless(mends.first_mend), (("a",), lot)), (joins.joined, (board, lot)),
                           (drawings.drawn, (lot,)), (drawings.exchanged, (lot,)), (builders.begun, (lot,)),
                           (standing.can_stand, (lot,)), (workorders.state_behind, (lot, lot)), (moments.moments, (lot, lot)),
                           (stopped.stopped_places, (((),), cells)), (trials.broken, (lot,)), (lostlogs.does_fit, ((), lot)),
                           (plans.best_trial, (lot, 1)), (surely.surely_carried, ((), 1, lot)), (sheets.write, (lot, lot)),
                           (deeds.replayed, (lot,))):
            with self.assertRaises(WovenError):
                call(board, *rest)
            self.assertEqual((board.cells, lot), ((">x", ".<"), [1, 0]))
        with self.assertRaises(WovenError):
            Board(cells)
        self.assertEqual(cells, [">x", ".<"])


if __name__ == "__main__":
    unittest.main()
