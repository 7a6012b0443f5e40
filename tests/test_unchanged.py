"""Point 1: no argument is modified, returned lists are new, equal calls give equal results."""

import unittest

from plain import larger_boards, tiny_boards

from wovenframes import boards, chains, lots, readings
from wovenframes.boards import Board
from wovenframes.errors import WovenError

LISTS = (
    (boards.steps, ()), (chains.reached, (0,)), (chains.reaching, (0,)), (lots.closed_lots, ()), (lots.parts, ()),
    (lots.layers, ()),
)
VALUES = (
    (boards.flipped, ()), (boards.turned, ()), (boards.with_cell, (0, 0, "x")), (chains.leads, (0, 1)),
    (chains.chain, (0, 1)), (lots.is_closed, ((0,),)), (lots.least_closed, ((0,),)), (lots.holds, ()),
    (readings.lifting, ()), (readings.as_motion, ((),)), (readings.ring_row, ()), (readings.verdict, ()),
)


class Unchanged(unittest.TestCase):
    def test_a_list_changed_by_the_caller(self):
        for board in [*list(tiny_boards())[:80], *larger_boards()]:
            for call, rest in LISTS:
                first = call(board, *rest)
                self.assertIs(first.__class__, list)
                kept = list(first)
                first.clear()
                first.append("changed")
                self.assertEqual(call(board, *rest), kept)

    def test_each_list_is_a_new_one(self):
        board = Board((">x", ".<"))
        for call, rest in LISTS:
            self.assertIsNot(call(board, *rest), call(board, *rest))

    def test_equal_calls_give_equal_results(self):
        for board in larger_boards():
            again = Board(tuple(board.cells))
            for call, rest in (*LISTS, *VALUES):
                self.assertEqual(call(board, *rest), call(again, *rest))
                self.assertEqual(call(board, *rest), call(board, *rest))

    def test_the_board_stays_as_it_is(self):
        for board in larger_boards():
            cells = tuple(board.cells)
            for call, rest in (*LISTS, *VALUES):
                call(board, *rest)
            self.assertEqual((board.cells, board.rows, board.columns), (cells, len(cells), len(cells[0])))

    def test_values_that_are_only_told_of_stay_as_they_are(self):
        board = Board(("x",))
        for call, rest in ((chains.shows_chain, (0, 1)), (readings.is_motion, ()), (readings.shows_ring, ()),
                           (readings.shows_verdict, ())):
            for value, same in (([0, 1, 0], [0, 1, 0]), ({"lot": [0]}, {"lot": [0]}), (("lot", [0]), ("lot", [0]))):
                self.assertIs(call(board, *rest, value), False)
                self.assertEqual(value, same)

    def test_a_call_that_raises_changes_nothing(self):
        board, cells, lot = Board((">x", ".<")), [">x", ".<"], [1, 0]
        for call, rest in ((boards.with_cell, (0, 0, ["x"])), (lots.is_closed, (lot,)), (lots.least_closed, (lot,)),
                           (readings.as_motion, ((0,),)), (readings.as_load, ((0,),)), (chains.chain, (0, 4))):
            with self.assertRaises(WovenError):
                call(board, *rest)
            self.assertEqual((board.cells, lot), ((">x", ".<"), [1, 0]))
        with self.assertRaises(WovenError):
            Board(cells)
        self.assertEqual(cells, [">x", ".<"])


if __name__ == "__main__":
    unittest.main()
