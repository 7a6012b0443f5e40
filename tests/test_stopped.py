"""Point 46: work that is cut off in a state that comes."""

import unittest

from plain import mixed_board
from plainloads import mixed_load, noughts, plain_barring
from plainwork import tried_works

from wovenframes.boards import Board
from wovenframes.errors import BadBuilders, BadCells, BadLoad, BadOrder
from wovenframes.stopped import first_uncarried, stopped_boards, stopped_places, surely_done

BOARD = Board((">",))
BUILDERS = ((("cut", 0, 0), ("fill", 0, 0, "x")), (("stand", 1), ("leave",)))


class AllStates(unittest.TestCase):
    def test_against_all_orders(self):
        shared = 0
        for board, builders, orders in tried_works():
            places = {}
            for _, states in orders:
                places.setdefault(states[-1][0], set()).add(states[-1][1])
            self.assertEqual(stopped_boards(board, builders), sorted(places))
            for cells, done in places.items():
                self.assertEqual(stopped_places(board, builders, cells), sorted(done))
                least = tuple(min(many) for many in zip(*done))
                self.assertEqual(surely_done(board, builders, cells), least)
                shared += least not in done
        # The least numbers of the builders need not come together.
        self.assertGreater(shared, 5)

    def test_cells_that_cannot_lie(self):
        none = 0
        for board, builders, orders in tried_works():
            lie = {state[0] for _, states in orders for state in states}
            for seed in range(3):
                cells = mixed_board(board.rows, board.columns, seed).cells
                if cells not in lie:
                    none += 1
                    self.assertEqual(stopped_places(board, builders, cells), [])
                    self.assertIsNone(surely_done(board, builders, cells))
        self.assertGreater(none, 500)

    def test_one_builder_who_can_have_done_either(self):
        builders = ((("cut", 0, 0), ("fill", 0, 0, ">"), ("cut", 0, 0)),)
        self.assertEqual(stopped_boards(BOARD, builders), [(".",), (">",)])
        self.assertEqual(stopped_places(BOARD, builders, (".",)), [(1,), (3,)])
        self.assertEqual(stopped_places(BOARD, builders, (">",)), [(0,), (2,)])
        self.assertEqual(surely_done(BOARD, builders, (".",)), (1,))
        self.assertEqual(surely_done(BOARD, builders, (">",)), (0,))

    def test_least_numbers_of_unlike_places(self):
        builders = ((("cut", 0, 0),), (("cut", 0, 0),))
        self.assertEqual(stopped_places(BOARD, builders, (".",)), [(0, 1), (1, 0)])
        self.assertEqual(surely_done(BOARD, builders, (".",)), (0, 0))

    def test_states_that_do_not_come_to_an_end_count_too(self):
        builders = ((("cut", 0, 0), ("leave",)), ())
        self.assertEqual(stopped_boards(BOARD, builders), [(".",), (">",)])
        self.assertEqual(surely_done(BOARD, builders, (".",)), (1, 0))

    def test_no_deeds(self):
        for builders in (((),), ((), ()), ((), (), ())):
            self.assertEqual(stopped_boards(BOARD, builders), [(">",)])
            self.assertEqual(stopped_places(BOARD, builders, (">",)), [(0,) * len(builders)])
            self.assertIsNone(surely_done(BOARD, builders, ("x",)))


class Uncarried(unittest.TestCase):
    def test_against_each_state_of_an_order(self):
        seen = {}
        for seed, (board, builders, orders) in enumerate(tried_works()):
            for order, states in orders[::1 + len(orders) // 6] + orders[-1:]:
                for load in (mixed_load(board, seed, 2), mixed_load(board, seed + 9, 20), noughts(board)):
                    fallen = [
                        done for done, state in enumerate(states) if plain_barring(Board(state[0]), load) is not None
                    ]
                    told = first_uncarried(board, builders, order, load)
                    self.assertEqual(told, fallen[0] if fallen else None)
                    seen[told] = seen.get(told, 0) + 1
        self.assertTrue(all(seen.get(many, 0) > 5 for many in (None, 0, 1, 2, 3)), seen)

    def test_carried_again_later(self):
        order = (0, 0)
        self.assertEqual(first_uncarried(BOARD, BUILDERS, order, (1, -1)), 1)
        self.assertEqual(first_uncarried(BOARD, BUILDERS, order, (-20, 20)), 0)
        self.assertIsNone(first_uncarried(BOARD, BUILDERS, (), (20, -20)))
        self.assertEqual(first_uncarried(BOARD, BUILDERS, (), (-1, 1)), 0)
        self.assertIsNone(first_uncarried(BOARD, BUILDERS, (1, 0, 1, 0), (0, 0)))
        self.assertEqual(first_uncarried(BOARD, BUILDERS, (1, 1, 0, 0), (1, -1)), 3)


class Wrong(unittest.TestCase):
    def test_bad_cells(self):
        for cells in (None, True, 0, "", ">", [], [">"], {}, (), (">", ">"), (">>",), ("a",), (None,), ([">"],), BOARD, (BOARD,)):
            for call in (stopped_places, surely_done):
                with self.subTest(cells=cells), self.assertRaises(BadCells):
                    call(BOARD, BUILDERS, cells)

    def test_bad_order_ahead_of_bad_load(self):
        for order, index in ((None, None), ([], None), ((0,) * 19, None), ((0, 0, 0), 2), ((2,), 0), ((0, True), 1)):
            for load in ((1, -1), (1, 0), None, [0, 0]):
                with self.assertRaises(BadOrder) as caught:
                    first_uncarried(BOARD, BUILDERS, order, load)
                self.assertEqual(caught.exception.index, index)

    def test_bad_load(self):
        for load in (None, 0, "", [], [0, 0], (1, 1), (1,), (1, -1, 0), (21, -21), (True, -1), (1, None), ("1", "-1"), BOARD):
            with self.subTest(load=load), self.assertRaises(BadLoad):
                first_uncarried(BOARD, BUILDERS, (0,), load)

    def test_bad_builders(self):
        for call, rest in ((stopped_boards, ()), (stopped_places, (None,)), (surely_done, (None,)),
                           (first_uncarried, (None, None))):
            with self.assertRaises(BadBuilders) as caught:
                call(BOARD, ((), (("cut", 0, 0),) * 7), *rest)
            self.assertEqual((caught.exception.builder, caught.exception.place), (1, None))


if __name__ == "__main__":
    unittest.main()
