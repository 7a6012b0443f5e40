"""Points 43 and 44: work along which the board holds."""

import unittest
from itertools import product

from plain import mixed_board
from plainloads import mixed_numbers, with_signs
from plainpictures import plain_holds
from plainwork import first_order, is_done, tried_works

from wovenframes.boards import Board
from wovenframes.errors import BadBuilders
from wovenframes.firmness import firm_always, firm_order, first_loose
from wovenframes.lots import holds
from wovenframes.workorders import ends, order_to, state_behind

KNOTS = Board(("xx", "xx"))


class AllOrders(unittest.TestCase):
    def test_against_all_orders(self):
        always, firmly = {True: 0, False: 0}, {True: 0, False: 0}
        for board, builders, orders in tried_works():
            hold = {state[0]: None for _, states in orders for state in states}
            hold = {cells: plain_holds(Board(cells)) for cells in hold}
            loose = [order for order, states in orders if not hold[states[-1][0]]]
            firm = [
                order
                for order, states in orders
                if is_done(builders, states[-1]) and all(hold[state[0]] for state in states)
            ]
            self.assertIs(firm_always(board, builders), loose == [])
            self.assertEqual(first_loose(board, builders), first_order(loose))
            self.assertEqual(firm_order(board, builders), min(firm, default=None))
            always[loose == []] += 1
            firmly[firm == []] += 1
        self.assertGreater(min(*always.values(), *firmly.values()), 20)

    def test_what_is_told_is_so(self):
        for board, builders, _ in tried_works():
            order = firm_order(board, builders)
            if order is not None:
                for many in range(len(order) + 1):
                    self.assertTrue(holds(Board(state_behind(board, builders, order[:many])[0])))
            order = first_loose(board, builders)
            if order is not None:
                self.assertFalse(holds(Board(state_behind(board, builders, order)[0])))


class Some(unittest.TestCase):
    def test_the_board_ahead_of_all_deeds(self):
        for builders in (((),), ((), ()), ((("fill", 0, 0, "x"),),)):
            self.assertIs(firm_always(Board((".",)), builders), False)
            self.assertEqual(first_loose(Board((".",)), builders), ())
            self.assertIsNone(firm_order(Board((".",)), builders))

    def test_no_deeds(self):
        for builders in (((),), ((), ()), ((), (), ())):
            self.assertIs(firm_always(KNOTS, builders), True)
            self.assertIsNone(first_loose(KNOTS, builders))
            self.assertEqual(firm_order(KNOTS, builders), ())

    def test_the_board_behind_all_deeds(self):
        builders = ((("cut", 0, 0),), (("cut", 0, 1),))
        # With either cell cut the board holds, with both the first row touches nothing.
        self.assertEqual(first_loose(KNOTS, builders), (0, 1))
        self.assertIsNone(firm_order(KNOTS, builders))
        self.assertIs(firm_always(KNOTS, builders[:1]), True)
        self.assertEqual(firm_order(KNOTS, builders[:1]), (0,))

    def test_a_fill_ahead_of_a_cut(self):
        board = Board(("xx", "x."))
        cut, fill = (("cut", 0, 0),), (("fill", 1, 1, "x"),)
        self.assertEqual(first_loose(board, (cut, fill)), (0,))
        self.assertEqual(firm_order(board, (cut, fill)), (1, 0))
        self.assertEqual(firm_order(board, (fill, cut)), (0, 1))
        self.assertIsNone(firm_order(board, (cut + fill,)))
        self.assertEqual(firm_order(board, (fill + cut,)), (0, 0))

    def test_one_who_stands_is_in_the_way(self):
        # Whoever stands on two threads that the cut parts keeps it from being done.
        board = Board(("x",))
        self.assertEqual(first_loose(board, ((("cut", 0, 0),), (("stand", 0),), (("stand", 1),))), (0,))
        self.assertIsNone(firm_order(board, ((("cut", 0, 0),), (("stand", 0),), (("stand", 1),))))

    def test_a_firm_order_that_is_not_the_least_whole_one(self):
        board = Board(("xx", "x."))
        builders = ((("cut", 0, 0),), (("fill", 1, 1, "<"),), (("stand", 2),))
        self.assertEqual(order_to(board, builders, (".x", "x<")), (0, 1, 2))
        self.assertIsNone(firm_order(board, builders))
        builders = ((("cut", 0, 0),), (("fill", 1, 1, "x"),), (("stand", 2),))
        self.assertEqual(firm_order(board, builders), (1, 0, 2))

    def test_the_least_of_firm_orders_to_unlike_ends(self):
        board = Board(("xx", "x."))
        builders = ((("fill", 1, 1, "<"),), (("fill", 1, 1, "x"),), (("cut", 1, 1),))
        self.assertEqual(ends(board, builders), [("xx", "x<"), ("xx", "xx")])
        self.assertEqual(firm_order(board, builders), (0, 2, 1))
        self.assertEqual(firm_order(board, builders[::-1]), (1, 0, 2))
        self.assertIs(firm_always(board, builders), True)

    def test_bad_builders(self):
        for call in (firm_always, first_loose, firm_order):
            with self.assertRaises(BadBuilders) as caught:
                call(KNOTS, ((("cut", 0, 0),), (("cut", 0, 2),)))
            self.assertEqual((caught.exception.builder, caught.exception.place), (1, 0))


class FillsAheadOfCuts(unittest.TestCase):
    def works(self):
        """Builders who stand nowhere, fill ahead of what they cut, and name no cell twice."""
        for seed in range(160):
            board = mixed_board(2 + seed % 3, 2 + seed // 3 % 3, seed, ("x", "xx.", "x.<>", "<>xx")[seed % 4])
            cells = list(product(range(board.rows), range(board.columns)))
            order = sorted(zip(mixed_numbers(seed, len(cells), 0, 10 ** 6), cells))
            rows = [[], [], []]
            for at, (number, (row, column)) in enumerate(order[:1 + seed % 7]):
                if board.cells[row][column] == ".":
                    rows[at % 3].insert(0, ("fill", row, column, "<>x"[number % 3]))
                else:
                    rows[at % 3].append(("cut", row, column))
            yield board, tuple(tuple(deeds) for deeds in rows[:1 + min(2, seed % 7)])

    def test_there_is_one_just_if_the_board_holds_first_and_last(self):
        seen = {True: 0, False: 0}
        for board, builders in self.works():
            last = board.cells
            for deed in [deed for deeds in builders for deed in deeds]:
                last = with_signs(Board(last), [deed[1:3]], deed[3] if deed[0] == "fill" else ".")
            wanted = plain_holds(board) and plain_holds(Board(last))
            self.assertIs(firm_order(board, builders) is not None, wanted)
            seen[wanted] += 1
        self.assertGreater(min(seen.values()), 20)


if __name__ == "__main__":
    unittest.main()
