"""Points 4, 5 and 9: closed lots, parts, and the order in which they lift."""

import unittest
from itertools import product

from plain import (
    all_lots, larger_boards, plain_closed_lots, plain_is_closed, plain_layers, plain_leads, plain_parts, plain_steps,
    threads_of, tiny_boards,
)

from wovenframes.boards import Board, turned
from wovenframes.lots import closed_lots, holds, is_closed, layers, least_closed, parts


class ClosedLots(unittest.TestCase):
    def test_against_all_lots(self):
        for board in tiny_boards():
            wanted = plain_closed_lots(board)
            self.assertEqual(closed_lots(board), wanted)
            for lot in all_lots(board):
                self.assertIs(is_closed(board, lot), lot in wanted)

    def test_larger_boards_against_all_lots(self):
        for board in larger_boards():
            self.assertEqual(closed_lots(board), plain_closed_lots(board))

    def test_without_steps_and_with_all(self):
        self.assertEqual(closed_lots(Board((".....",) * 5)), all_lots(Board((".....",) * 5)))
        self.assertEqual(closed_lots(Board(("xxxxx",) * 5)), [(), tuple(range(10))])

    def test_in_common_and_together(self):
        for board in larger_boards():
            lots = closed_lots(board)[:40]
            for one, other in product(lots, repeat=2):
                self.assertTrue(is_closed(board, tuple(sorted(set(one) & set(other)))))
                self.assertTrue(is_closed(board, tuple(sorted(set(one) | set(other)))))

    def test_nothing_beside_lies_over_one_in_it(self):
        for board in tiny_boards():
            for lot in all_lots(board):
                barred = False
                for row, column in product(range(board.rows), range(board.columns)):
                    sign, across = board.cells[row][column], board.rows + column
                    barred = barred or (row in lot and across not in lot and sign in ("<", "x"))
                    barred = barred or (across in lot and row not in lot and sign in (">", "x"))
                self.assertEqual(is_closed(board, lot), not barred)

    def test_what_stays_is_closed_in_the_turned_board(self):
        for board in tiny_boards():
            for lot in all_lots(board):
                beside = tuple(thread for thread in threads_of(board) if thread not in lot)
                self.assertEqual(is_closed(board, lot), is_closed(turned(board), beside))


class LeastClosed(unittest.TestCase):
    def test_against_all_closed_lots(self):
        for board in tiny_boards():
            for lot in all_lots(board):
                wanted = next(other for other in plain_closed_lots(board) if set(lot) <= set(other))
                self.assertEqual(least_closed(board, lot), wanted)

    def test_larger_boards_against_pairs_joined(self):
        for board in larger_boards():
            pairs = plain_leads(board)
            for lot in all_lots(board)[:60]:
                wanted = tuple(one for one in threads_of(board) if any((one, other) in pairs for other in lot))
                self.assertEqual(least_closed(board, lot), wanted)

    def test_the_empty_lot_and_all_threads(self):
        for board in larger_boards():
            self.assertEqual(least_closed(board, ()), ())
            self.assertEqual(least_closed(board, tuple(threads_of(board))), tuple(threads_of(board)))


class Parts(unittest.TestCase):
    def test_against_pairs_that_lead_to_each_other(self):
        for board in [*tiny_boards(), *larger_boards()]:
            self.assertEqual(parts(board), plain_parts(board))

    def test_without_steps_and_with_all(self):
        self.assertEqual(parts(Board((".....",) * 5)), [(thread,) for thread in range(10)])
        self.assertEqual(parts(Board(("xxxxx",) * 5)), [tuple(range(10))])

    def test_holds(self):
        for board in [*tiny_boards(), *larger_boards()]:
            self.assertIs(holds(board), len(plain_parts(board)) == 1)

    def test_holds_without_a_knot(self):
        self.assertIs(holds(Board(("><", "<>"))), True)
        self.assertIs(holds(Board(("><", "<<"))), False)


class Layers(unittest.TestCase):
    def test_against_all_orders_of_the_parts(self):
        for board in tiny_boards():
            self.assertEqual(layers(board), plain_layers(board))
            self.assertEqual(layers(turned(board)), plain_layers(turned(board)))

    def test_larger_boards_against_all_orders_of_the_parts(self):
        for board in larger_boards():
            if len(plain_parts(board)) <= 7:
                self.assertEqual(layers(board), plain_layers(board))

    def test_no_step_leads_to_an_earlier_one(self):
        for board in larger_boards():
            order = layers(board)
            self.assertEqual(sorted(order), parts(board))
            place = {thread: at for at, part in enumerate(order) for thread in part}
            self.assertTrue(all(place[one] <= place[other] for one, other in plain_steps(board)))

    def test_what_is_lifted_is_closed_each_time(self):
        for board in larger_boards():
            lifted = ()
            for part in layers(board):
                lifted = tuple(sorted(lifted + part))
                self.assertTrue(plain_is_closed(board, lifted))

    def test_the_least_part_that_can_comes_first(self):
        self.assertEqual(layers(Board((".....",) * 5)), [(thread,) for thread in range(10)])
        self.assertEqual(layers(Board(("<.", ".."))), [(1,), (2,), (0,), (3,)])
        self.assertEqual(layers(Board(("..", ".<"))), [(0,), (2,), (3,), (1,)])


if __name__ == "__main__":
    unittest.main()
