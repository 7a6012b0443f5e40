"""The interface: each name stands in its module, is defined there, and takes the arguments that are listed."""

import inspect
import unittest
from importlib import import_module

from wovenframes.desks import Desk

LISTED = """
boards: steps(board) flipped(board) turned(board) with_cell(board, row, column, sign) Board(cells)
chains: leads(board, one, other) shows_chain(board, one, other, value) chain(board, one, other) reached(board, one)
chains: reaching(board, other)
lots: is_closed(board, lot) closed_lots(board) least_closed(board, lot) parts(board) layers(board) holds(board)
readings: lifting(board) is_motion(board, value) as_motion(board, lot) as_load(board, lot) ring_row(board)
readings: shows_ring(board, value) verdict(board) shows_verdict(board, value)
carrying: is_carried(board, load) shows_pulls(board, load, value) pulls(board, load) barring_lot(board, load)
carrying: least_pull(board, load)
strengths: is_held(board, strengths, load) shows_held(board, strengths, load, value) holding(board, strengths, load)
strengths: strained_lot(board, strengths, load) greatest_factor(board, strengths, load)
strengths: tight_lots(board, strengths, load) first_to_break(board, strengths, load)
prices: least_price(board, strengths, prices, load) cheapest(board, strengths, prices, load)
prices: price_paper(board, strengths, prices, load) shows_price(board, strengths, prices, load, value)
prices: greatest_pull(board, strengths, one, other) narrowest(board, strengths, one, other)
loadcuts: fewest_cuts(board, load) all_cuts(board, load) spared_cells(board, load) fewest_fills(board, load)
loadcuts: first_fill(board, load)
motions: motions(board, angle) count_motions(board, angle) as_lots(board, motion) of_lots(board, least, heights)
lattices: lots_between(board, one, other) least_between(board, one, other) greatest_between(board, one, other)
lattices: generators(board) made_by(board, lot) idle_steps(board) lean(board) board_of(rows, columns, lots)
lattices: fewest_steps(rows, columns, lots)
orders: count_orders(board) place_of(board, order) order_at(board, number)
pictures: seen(board, colours) seen_behind(board, colours) first_wrong(picture, colours) free_cells(picture, colours)
pictures: weaves(picture, colours) free_board(picture, colours)
holdweaves: bridges(picture, colours) holding_weave(picture, colours) shows_holding(picture, colours, value)
holdweaves: why_not(picture, colours) shows_why(picture, colours, value) many_holding(picture, colours)
dyes: told_colours(board, picture) dyed(picture, colours) colours_for(picture)
mends: first_mend(picture, colours) is_mend(picture, colours, value) mend_paper(picture, colours)
mends: shows_mend(picture, colours, value)
joins: joined(one, other, shared) beside(one, other) beneath(one, other) places(one, other, shared)
joins: agreeing_lots(one, other, shared) first_apart(one, other, shared) split_load(one, other, shared, load)
joins: shows_split(one, other, shared, load, value)
drawings: drawn(board, lot) bare(board) drawn_to(board, lot) lots_with(board, lot) exchanged(board, order)
drawings: alike(one, other) pieces(board) parted(board, many)
builders: begun(board, builders) movers(board, builders, state) acted(board, builders, state, builder)
standing: can_stand(board, threads) dividing_lot(board, threads)
workorders: state_behind(board, builders, order) ends(board, builders) order_to(board, builders, cells)
workorders: first_stuck(board, builders) many_orders(board, builders)
firmness: firm_always(board, builders) first_loose(board, builders) firm_order(board, builders)
moments: moments(board, deeds, deed) latest(board, deeds, deed)
stopped: stopped_boards(board, builders) stopped_places(board, builders, cells) surely_done(board, builders, cells)
stopped: first_uncarried(board, builders, order, load)
trials: broken(board, lost) comes_along(board, lost, thread) sight_of(board, lost, thread) told_apart(board, one, other)
trials: idle_cells(board)
lostlogs: does_fit(board, lost, log) breaks_that_fit(board, log, most) left_behind(board, log, most)
lostlogs: sure_cells(board, log, most) alike_breaks(board, most)
plans: plan(board, most) fewest_trials(board, most) shows_plan(board, most, many, value) best_trial(board, log, most)
plans: fewest_looks(board, log, most, thread)
surely: surely_holds(board, log, most) may_hold(board, log, most) surely_carried(board, log, most, load)
surely: may_carry(board, log, most, load)
sheets: write(board, load, strengths) read(text)
desks: Desk(board)
deeds: replayed(board, deeds) deeds_to(board, other) fewest_deeds(board, other)
"""
METHODS = {
    "put": ["row", "column", "sign"], "strengthen": ["row", "column", "number"], "shift": ["one", "other", "number"],
    "flip": [], "turn": [], "undo": [], "redo": [], "does_carry": [], "verdict": [], "copy": [], "__len__": [],
}


def listed():
    """Triples of a module, a name in it, and the names of its arguments."""
    for line in LISTED.strip().split("\n"):
        module, rest = line.split(": ")
        for call in rest.split(") "):
            name, arguments = call.rstrip(")").split("(")
            yield import_module(f"wovenframes.{module}"), name, arguments.split(", ")


class Interface(unittest.TestCase):
    def test_each_name_is_defined_in_its_module_with_its_arguments(self):
        many = 0
        for module, name, arguments in listed():
            with self.subTest(module=module.__name__, name=name):
                there = getattr(module, name)
                self.assertEqual((there.__module__, there.__name__), (module.__name__, name))
                self.assertEqual(list(inspect.signature(there).parameters), arguments)
                many += 1
        self.assertEqual(many, 142)

    def test_the_methods_of_a_desk(self):
        for name, arguments in METHODS.items():
            with self.subTest(name=name):
                there = vars(Desk)[name]
                self.assertEqual(list(inspect.signature(there).parameters), ["self", *arguments])
        for name in ("own_board", "own_load", "own_strengths"):
            self.assertIsInstance(vars(Desk)[name], property)


if __name__ == "__main__":
    unittest.main()
