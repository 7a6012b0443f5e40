"""Point 42: orders of deeds, the states behind them, where they end, and where they are stuck."""

import unittest
from math import comb, factorial

from plainwork import begin, first_order, is_done, plain_acted, tried_works

from wovenframes.boards import Board
from wovenframes.builders import begun, movers
from wovenframes.errors import BadBuilders, BadCells, BadOrder
from wovenframes.workorders import ends, first_stuck, many_orders, order_to, state_behind

BOARD = Board((">",))
BUILDERS = ((("cut", 0, 0), ("fill", 0, 0, "x")), (("stand", 1), ("leave",)))
SPARE = Board((".....",) * 5)


def fills(row, many, sign=">"):
    return tuple(("fill", row, column, sign) for column in range(many))


class AllOrders(unittest.TestCase):
    def test_the_state_behind_each_order(self):
        for board, builders, orders in tried_works():
            for order, states in orders[::1 + len(orders) // 40]:
                self.assertEqual(state_behind(board, builders, order), states[-1])

    def test_each_order_that_is_none(self):
        for board, builders, orders in tried_works():
            for order, states in orders[::1 + len(orders) // 20]:
                for builder in range(len(builders)):
                    if plain_acted(builders, states[-1], builder) is None:
                        for behind in ((), (0,), (None,)):
                            with self.assertRaises(BadOrder) as caught:
                                state_behind(board, builders, order + (builder,) + behind)
                            self.assertEqual(caught.exception.index, len(order))

    def test_ends_and_orders_to_them(self):
        several = 0
        for board, builders, orders in tried_works():
            found = {}
            for order, states in orders:
                if is_done(builders, states[-1]):
                    found.setdefault(states[-1][0], []).append(order)
            several += len(found) > 1
            self.assertEqual(ends(board, builders), sorted(found))
            self.assertEqual(many_orders(board, builders), sum(len(some) for some in found.values()))
            for cells in {state[0] for _, states in orders for state in states}:
                wanted = min(found[cells]) if cells in found else None
                self.assertEqual(order_to(board, builders, cells), wanted)
            if wanted is not None:
                self.assertEqual(state_behind(board, builders, wanted)[0], cells)
        self.assertGreater(several, 5)

    def test_first_stuck(self):
        seen = {True: 0, False: 0}
        for board, builders, orders in tried_works():
            stuck = [
                order
                for order, states in orders
                if not is_done(builders, states[-1])
                and all(plain_acted(builders, states[-1], builder) is None for builder in range(len(builders)))
            ]
            told = first_stuck(board, builders)
            self.assertEqual(told, first_order(stuck))
            seen[told is None] += 1
            if told is not None:
                self.assertEqual(movers(board, builders, state_behind(board, builders, told)), ())
        self.assertGreater(min(seen.values()), 100)

    def test_equal_places_with_unlike_cells(self):
        builders = ((("fill", 0, 0, "<"), ("cut", 0, 0)), (("fill", 0, 0, ">"),))
        board = Board((".",))
        # Once the other builder has filled the cell, the first one has no deed that can be done.
        self.assertEqual(ends(board, builders), [(">",)])
        self.assertEqual(many_orders(board, builders), 1)
        self.assertEqual(order_to(board, builders, (">",)), (0, 0, 1))
        self.assertIsNone(order_to(board, builders, (".",)))
        self.assertEqual(first_stuck(board, builders), (1,))
        builders = ((("fill", 0, 0, "<"),), (("fill", 0, 0, ">"),), (("cut", 0, 0),))
        self.assertEqual(ends(board, builders), [("<",), (">",)])
        self.assertEqual(order_to(board, builders, ("<",)), (1, 2, 0))
        self.assertEqual(order_to(board, builders, (">",)), (0, 2, 1))
        self.assertEqual(many_orders(board, builders), 2)


class Counts(unittest.TestCase):
    def test_builders_who_do_not_meet(self):
        for one in range(7):
            for other in range(0, 7, 2):
                builders = ((("fill", 0, 0, "x"), ("cut", 0, 0)) * 3, (("stand", 3), ("leave",)) * 3)
                builders = (builders[0][:one], builders[1][:other])
                self.assertEqual(many_orders(SPARE, builders), comb(one + other, one))
                self.assertEqual(order_to(SPARE, builders, ends(SPARE, builders)[0]), (0,) * one + (1,) * other)

    def test_three_builders_of_six_deeds_each(self):
        builders = tuple((("fill", row, 0, "x"), ("cut", row, 0)) * 3 for row in range(3))
        self.assertEqual(many_orders(SPARE, builders), factorial(18) // factorial(6) ** 3)
        self.assertEqual(ends(SPARE, builders), [SPARE.cells])
        self.assertEqual(order_to(SPARE, builders, SPARE.cells), (0,) * 6 + (1,) * 6 + (2,) * 6)
        self.assertIsNone(first_stuck(SPARE, builders))

    def test_no_deeds(self):
        for builders in (((),), ((), ()), ((), (), ())):
            self.assertEqual(many_orders(BOARD, builders), 1)
            self.assertEqual(ends(BOARD, builders), [(">",)])
            self.assertEqual(order_to(BOARD, builders, (">",)), ())
            self.assertIsNone(order_to(BOARD, builders, ("<",)))
            self.assertIsNone(first_stuck(BOARD, builders))
            self.assertEqual(state_behind(BOARD, builders, ()), begun(BOARD, builders))

    def test_nothing_can_be_done(self):
        builders = ((("fill", 0, 0, "x"),), (("leave",),))
        self.assertEqual(first_stuck(BOARD, builders), ())
        self.assertEqual((ends(BOARD, builders), many_orders(BOARD, builders)), ([], 0))
        self.assertIsNone(order_to(BOARD, builders, (">",)))

    def test_stuck_as_they_stand(self):
        # Each can stand alone; behind either the other one cannot, since no chain leads back.
        builders = ((("stand", 0),), (("stand", 1),))
        self.assertEqual(first_stuck(BOARD, builders), (0,))
        self.assertEqual(first_stuck(Board(("x",)), builders), None)
        # The longer way is stuck as well, the shorter one is told.
        builders = ((("cut", 0, 0), ("stand", 1), ("leave",)), (("stand", 0),))
        self.assertEqual(first_stuck(BOARD, builders), (0, 1))

    def test_a_shorter_stuck_order_ahead_of_a_lesser_one(self):
        # Behind (0, 0) builder 1 cannot cut; behind (1,) alone builder 0 can fill no more.
        board = Board((".x",))
        builders = ((("fill", 0, 0, ">"), ("cut", 0, 1), ("cut", 0, 1)), (("fill", 0, 0, "x"), ("cut", 0, 1)))
        orders = [(1, 1), (0, 0)]
        for order in orders:
            self.assertEqual(movers(board, builders, state_behind(board, builders, order)), ())
        self.assertEqual(first_stuck(board, builders), (0, 0))


class WrongOrders(unittest.TestCase):
    def check(self, order, index, builders=BUILDERS, board=BOARD):
        with self.subTest(order=order), self.assertRaises(BadOrder) as caught:
            state_behind(board, builders, order)
        self.assertEqual(caught.exception.index, index)

    def test_no_tuple_of_at_most_eighteen_things(self):
        for order in (None, True, 0, 1, "", "01", [], [0], [0, 1], {}, {0: 1}, BOARD, (0,) * 19, (None,) * 19, (7,) * 30):
            self.check(order, None)
        self.check((0,) * 18, 2)
        self.check((None,) * 18, 0)

    def test_eighteen_deeds_and_one_more(self):
        builders = tuple((("fill", row, 0, "x"), ("cut", row, 0)) * 3 for row in range(3))
        whole = (2, 1, 0) * 6
        self.assertEqual(state_behind(SPARE, builders, whole), (SPARE.cells, (6, 6, 6), (None,) * 3))
        self.check(whole + (0,), None, builders, SPARE)
        self.check((0,) * 7 + (1,) * 11, 6, builders, SPARE)
        self.check((0,) * 6 + (1,) * 6 + (2,) * 5 + (3,), 17, builders, SPARE)

    def test_the_first_thing_that_is_no_builder_who_can_go_on(self):
        for thing in (None, True, False, -1, 2, 3, 10 ** 30, "0", "", (), (0,), [], [0], {}, BOARD):
            self.check((thing,), 0)
            self.check((thing, None), 0)
            self.check((0, thing), 1)
            self.check((0, 1, 0, thing), 3)
            self.check((0, 1, 0, 1, thing), 4)
        self.check((0, 0, 0), 2)
        self.check((0, 0, 0, None), 2)
        self.check((1, 1, 1, 0), 2)
        self.assertEqual(state_behind(BOARD, BUILDERS, (1, 0, 1, 0)), (("x",), (2, 2), (None, None)))

    def test_builders_ahead_of_the_order(self):
        for call in (state_behind, order_to):
            with self.assertRaises(BadBuilders) as caught:
                call(BOARD, ((("leave",), ("cut", 0, 1)),), None)
            self.assertEqual((caught.exception.builder, caught.exception.place), (0, 1))

    def test_bad_cells(self):
        board, builders = Board(("x>", ".<")), ((("cut", 0, 0),),)
        self.assertEqual(order_to(board, builders, (".>", ".<")), (0,))
        self.assertIsNone(order_to(board, builders, ("..", "..")))
        for cells in (None, True, 0, "", ".>.<", [], [".>", ".<"], {}, (), (".>",), (".>", ".<", ".."), (".>.", ".<."),
                      (".", "."), (".>", "."), (".>", ".a"), (".>", None), (".>", ["."]), board, (board, board), ((".>", ".<"),)):
            with self.subTest(cells=cells), self.assertRaises(BadCells):
                order_to(board, builders, cells)

    def test_the_first_state_is_the_one_ahead_of_all(self):
        for board, builders, _ in tried_works():
            self.assertEqual(state_behind(board, builders, ()), begin(board, builders))


if __name__ == "__main__":
    unittest.main()
