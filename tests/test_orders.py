"""Points 25 and 27: lift orders, their numbers, and how many there are."""

import unittest
from itertools import permutations, product

from plain import (
    all_boards, five_by_five, larger_boards, mixed_board, plain_is_closed, plain_parts, plain_steps, tiny_boards,
)

from wovenframes.boards import Board, flipped, turned
from wovenframes.errors import BadLiftOrder, BadPlace
from wovenframes.lots import layers
from wovenframes.motions import count_motions
from wovenframes.orders import count_orders, order_at, place_of

EXAMPLE = Board((">x", ".<"))
EMPTY = Board((".....",) * 5)


def plain_orders(board):
    """All tuples of all parts, ascending, in which no step leads from a later one to an earlier one."""
    pairs = plain_steps(board)
    found = []
    for order in permutations(plain_parts(board)):
        place = {thread: at for at, part in enumerate(order) for thread in part}
        if all(place[one] <= place[other] for one, other in pairs):
            found.append(order)
    return sorted(found)


def chained_boards():
    """Boards of few parts, some of them large, and boards with few lift orders."""
    return [board for board in [*larger_boards(), *five_by_five()] if len(plain_parts(board)) <= 6]


class Orders(unittest.TestCase):
    def test_against_all_orders_of_the_parts(self):
        for board in [*tiny_boards(), *list(all_boards(2, 3))[::61], *chained_boards()]:
            orders = plain_orders(board)
            self.assertEqual(count_orders(board), len(orders))
            for number in range(0, len(orders), 1 + len(orders) // 30):
                self.assertEqual(order_at(board, number), orders[number])
                self.assertEqual(place_of(board, orders[number]), number)
            self.assertEqual(order_at(board, len(orders) - 1), orders[-1])
            self.assertEqual(place_of(board, orders[-1]), len(orders) - 1)

    def test_larger_boards_order_by_order(self):
        for board in [*larger_boards(), *five_by_five()]:
            many = count_orders(board)
            before = None
            for number in sorted({0, 1, many // 3, many // 2, many - 2, many - 1} & set(range(many))):
                order = order_at(board, number)
                self.assertEqual(place_of(board, order), number)
                self.assertEqual(sorted(order), plain_parts(board))
                lifted = ()
                for part in order:
                    lifted = tuple(sorted(lifted + part))
                    self.assertTrue(plain_is_closed(board, lifted))
                self.assertTrue(before is None or before < order)
                before = order

    def test_all_orders_of_a_larger_board_ascend(self):
        for board in (mixed_board(4, 4, 3, "..<>"), mixed_board(5, 5, 41, "<>"), mixed_board(3, 5, 2, ".<>>")):
            many = min(count_orders(board), 300)
            orders = [order_at(board, number) for number in range(many)]
            self.assertEqual(orders, sorted(set(orders)))
            # Each order is followed by the next one: none lies between the two that is no lift order's.
            self.assertEqual([place_of(board, order) for order in orders], list(range(many)))

    def test_the_first_one_is_that_of_layers(self):
        for board in [*list(tiny_boards())[::3], *larger_boards(), *five_by_five()]:
            self.assertEqual(list(order_at(board, 0)), layers(board))

    def test_without_steps_and_with_all(self):
        self.assertEqual([count_orders(EMPTY), count_orders(Board(("xxxxx",) * 5))], [3628800, 1])
        self.assertEqual(order_at(EMPTY, 3628799), tuple((thread,) for thread in range(9, -1, -1)))
        self.assertEqual(order_at(EMPTY, 1), tuple((thread,) for thread in (0, 1, 2, 3, 4, 5, 6, 7, 9, 8)))
        self.assertEqual(order_at(Board(("xxxxx",) * 5), 0), (tuple(range(10)),))
        self.assertEqual(place_of(Board(("x",)), ((0, 1),)), 0)
        self.assertEqual(count_orders(Board((">>>>>",) * 5)), 120 * 120)

    def test_turned_and_flipped_have_as_many(self):
        for board in [*larger_boards(), *five_by_five()]:
            many = count_orders(board)
            self.assertEqual([count_orders(turned(board)), count_orders(flipped(board))], [many, many])

    def test_one_thread_without_steps_more(self):
        for board in [*list(tiny_boards())[::3], *larger_boards()]:
            places = len(plain_parts(board)) + 1
            if board.rows < 5:
                more = Board(board.cells + ("." * board.columns,))
                self.assertEqual(count_orders(more), count_orders(board) * places)
            if board.columns < 5:
                more = Board(tuple("." + signs for signs in board.cells))
                self.assertEqual(count_orders(more), count_orders(board) * places)

    def test_the_differences_of_the_numbers_of_motions(self):
        for board in [*list(tiny_boards())[::5], *list(larger_boards())[::2], *five_by_five()]:
            degree = len(plain_parts(board))
            row = [count_motions(board, angle) for angle in range(degree + 3)]
            for _ in range(degree):
                row = [after - ahead for ahead, after in zip(row, row[1:])]
            self.assertEqual(row, [count_orders(board)] * 3)


class WrongOrders(unittest.TestCase):
    def test_bad_place(self):
        for board in [EXAMPLE, EMPTY, Board(("x",)), *five_by_five()]:
            many = count_orders(board)
            for number in (-1, many, many + 1, 10 ** 30, True, False, None, "0", (0,), [0], {0: 0}, board):
                with self.subTest(number=number), self.assertRaises(BadPlace):
                    order_at(board, number)
            self.assertIsInstance(order_at(board, many - 1), tuple)

    def test_bad_lift_orders(self):
        for order in (
            None, 0, True, "", (), [], {}, ((0, 3),), ((0, 3), (1,)), [(0, 3), (1,), (2,)], ((1,), (0, 3), (2,)),
            ((2,), (1,), (0, 3)), ((0, 3), (1,), (2,), ()), ((0, 3), (1,), (2,), (2,)), ((3, 0), (1,), (2,)),
            ((0,), (3,), (1,), (2,)), ((0, 3), (1, 2)), ((0, 1, 2, 3),), ([0, 3], (1,), (2,)), ((0, 3), 1, 2),
            ((False, 3), (1,), (2,)), ((0, 3), (True,), (2,)), ((0, 3), (1,), (4,)), ((0, 3), (1,), None),
            ((0, 3), (1,), "2"), ((0, 3), (1,), ("2",)), ((0, 3), (1,), ((2,),)), (((0, 3), (1,), (2,)),), EXAMPLE,
            (EXAMPLE, (1,), (2,)), ((0, 3), (1,), {}), (0, 1, 2, 3), ((0, 3), (0, 3), (1,), (2,)),
        ):
            with self.subTest(order=order), self.assertRaises(BadLiftOrder):
                place_of(EXAMPLE, order)

    def test_each_tuple_of_the_parts_is_one_or_is_told(self):
        for board in list(tiny_boards())[::7]:
            orders = plain_orders(board)
            found = plain_parts(board)
            for size in range(len(found) + 1):
                for order in product(found, repeat=size):
                    if order in orders:
                        self.assertEqual(place_of(board, order), orders.index(order))
                    else:
                        with self.assertRaises(BadLiftOrder):
                            place_of(board, order)


if __name__ == "__main__":
    unittest.main()
