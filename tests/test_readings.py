"""Points 6 to 12: lots that lift off, motions, loads, ring rows, and that these are one."""

import unittest
from itertools import product

from plain import (
    all_lots, larger_boards, plain_closed_lots, plain_is_closed, plain_is_ring, plain_motions, plain_parts,
    plain_steps, threads_of, tiny_boards,
)

from wovenframes.boards import Board
from wovenframes.errors import NotClosed, NotLifting
from wovenframes.lots import closed_lots, holds
from wovenframes.readings import (
    as_load, as_motion, is_motion, lifting, ring_row, shows_ring, shows_verdict, verdict,
)

ODD_VALUES = (
    None, True, False, 0, 1, -1, "", "ring", "lot", [], {}, (), (None,), (True,), ("ring",), ("lot",), ("ring", None),
    ("lot", None), ("ring", True), ("lot", 0), ("lot", "0"), ("lot", [0]), ("lot", {0: 0}), ("ring", [0, 1, 0]),
    ("ring", ()), ("lot", ()), (None, (0,)), ((0,), "lot"), (["lot"], (0,)), ({}, (0,)), ("Lot", (0,)), (b"lot", (0,)),
    ["lot", (0,)], {"lot": (0,)}, ("lot", (0,), None), ("lot", (0, 0)), ("lot", (-1,)), ("lot", (99,)),
    ("lot", (False,)), ("lot", ((0,),)), ("lot", ([0],)),
)


def lifting_lots(board):
    return [lot for lot in plain_closed_lots(board) if lot and len(lot) < len(threads_of(board))]


class Lifting(unittest.TestCase):
    def test_the_least_of_the_smallest(self):
        for board in [*tiny_boards(), *larger_boards()]:
            lots = lifting_lots(board)
            self.assertEqual(lifting(board), lots[0] if lots else None)

    def test_without_steps_and_with_all(self):
        self.assertEqual(lifting(Board((".....",) * 5)), (0,))
        self.assertIsNone(lifting(Board(("xxxxx",) * 5)))


class Motions(unittest.TestCase):
    def test_against_all_tuples(self):
        for board in tiny_boards():
            wanted = set(plain_motions(board, -1, 1))
            for angles in product(range(-1, 2), repeat=len(board)):
                self.assertIs(is_motion(board, angles), angles in wanted)

    def test_the_greatest_angles(self):
        board, far = Board((">",)), 10 ** 6
        for angles in ((far, far), (-far, -far), (far, -far), (far, far - 1)):
            self.assertIs(is_motion(board, angles), True)
        for angles in ((far + 1, far), (far + 1, far + 1), (0, -far - 1), (-far - 1, -far - 1), (-far, far)):
            self.assertIs(is_motion(board, angles), False)

    def test_any_value(self):
        board = Board((".",))
        for value in [*ODD_VALUES, board, (board, board), [0, 0], {0: 0, 1: 0}, "00", ("0", "0"), (0, None), (0,),
                      (0, 0, 0), (0, True), (False, False), ((0,), (0,)), ([0], [0]), (0, "0")]:
            with self.subTest(value=value):
                self.assertIs(is_motion(board, value), False)
        self.assertIs(is_motion(board, (0, 0)), True)

    def test_as_motion(self):
        for board in tiny_boards():
            for lot in all_lots(board):
                if plain_is_closed(board, lot):
                    wanted = tuple(int(thread in lot) for thread in threads_of(board))
                    self.assertEqual(as_motion(board, lot), wanted)
                    self.assertTrue(is_motion(board, wanted))
                else:
                    with self.assertRaises(NotClosed):
                        as_motion(board, lot)

    def test_a_rod_and_a_wire(self):
        for low, high in product(range(-2, 3), repeat=2):
            self.assertEqual(is_motion(Board(("x",)), (low, high)), low == high)
            self.assertEqual(is_motion(Board((">",)), (low, high)), low >= high)
            self.assertEqual(is_motion(Board(("<",)), (low, high)), low <= high)
            self.assertTrue(is_motion(Board((".",)), (low, high)))


class Loads(unittest.TestCase):
    def test_as_load(self):
        for board in [*tiny_boards(), *list(larger_boards())[:60]]:
            lots = lifting_lots(board)
            for lot in all_lots(board):
                if lot in lots:
                    beside = [thread for thread in threads_of(board) if thread not in lot]
                    wanted = {lot[0]: -1, beside[0]: 1}
                    self.assertEqual(as_load(board, lot), tuple(wanted.get(thread, 0) for thread in threads_of(board)))
                else:
                    with self.assertRaises(NotLifting):
                        as_load(board, lot)

    def test_a_lot_that_lifts_off_is_pulled_below_nought(self):
        for board in larger_boards():
            for lot in lifting_lots(board)[:30]:
                load = as_load(board, lot)
                self.assertEqual([len(load), sum(load)], [len(board), 0])
                self.assertLess(sum(load[thread] for thread in lot), 0)

    def test_the_empty_lot_and_all_threads_do_not_lift_off(self):
        for board in larger_boards():
            for lot in ((), tuple(threads_of(board))):
                self.assertEqual(as_motion(board, lot), (int(bool(lot)),) * len(board))
                with self.assertRaises(NotLifting):
                    as_load(board, lot)


class Rings(unittest.TestCase):
    def test_there_is_one_just_if_the_board_holds(self):
        for board in [*tiny_boards(), *larger_boards()]:
            row = ring_row(board)
            if len(plain_parts(board)) == 1:
                self.assertIsInstance(row, tuple)
                self.assertTrue(plain_is_ring(board, row))
                self.assertIs(shows_ring(board, row), True)
            else:
                self.assertIsNone(row)

    def test_against_all_tuples_of_threads(self):
        for board in (Board(("x",)), Board((">",)), Board((".",)), Board(("xx",)), Board(("x", "x")), Board(("x>",))):
            for size in range(7):
                for row in product(threads_of(board), repeat=size):
                    self.assertIs(shows_ring(board, row), plain_is_ring(board, row))

    def test_two_by_two(self):
        board = Board(("><", "<>"))
        self.assertIs(shows_ring(board, (0, 2, 1, 3, 0)), True)
        self.assertIs(shows_ring(board, (2, 1, 3, 0, 2)), True)
        self.assertIs(shows_ring(board, (0, 3, 1, 2, 0)), False)
        self.assertIs(shows_ring(board, (0, 2, 1, 3)), False)
        self.assertIs(shows_ring(board, (0, 2, 1, 3, 0, 2, 1, 3, 0)), True)

    def test_any_value(self):
        board = Board(("x",))
        for value in [*ODD_VALUES, board, [0, 1, 0], "010", {0: 1}, (0, 1), (0,), (0, 1, 1), (0, 0), (0, 1, 2),
                      (0, -1, 0), (0, True, 0), (False, 1, False), (0, 1, False), ((0, 1, 0),), (0, [1], 0),
                      (0, "1", 0), ("0", "1")]:
            with self.subTest(value=value):
                self.assertIs(shows_ring(board, value), False)
        self.assertIs(shows_ring(board, (1, 0, 1)), True)


class Verdicts(unittest.TestCase):
    def test_a_ring_row_or_the_lot(self):
        for board in [*tiny_boards(), *larger_boards()]:
            told = verdict(board)
            self.assertIsInstance(told, tuple)
            if len(plain_parts(board)) == 1:
                self.assertEqual((len(told), told[0]), (2, "ring"))
                self.assertTrue(plain_is_ring(board, told[1]))
            else:
                self.assertEqual(told, ("lot", lifting_lots(board)[0]))
            self.assertIs(shows_verdict(board, told), True)

    def test_any_lot_that_lifts_off(self):
        for board in tiny_boards():
            lots = lifting_lots(board)
            for lot in all_lots(board):
                self.assertIs(shows_verdict(board, ("lot", lot)), lot in lots)
                self.assertIs(shows_verdict(board, ("ring", lot)), False)

    def test_any_ring_row(self):
        board = Board(("xx",))
        for size in range(7):
            for row in product(threads_of(board), repeat=size):
                self.assertIs(shows_verdict(board, ("ring", row)), plain_is_ring(board, row))
                self.assertIs(shows_verdict(board, ("lot", row)), False)

    def test_any_value(self):
        loose, knot = Board(("..", "..")), Board(("x",))
        for value in ODD_VALUES:
            with self.subTest(value=value):
                self.assertIs(shows_verdict(loose, value), False)
                self.assertIs(shows_verdict(knot, value), False)
        for value in (loose, (loose, (0,)), ("lot", loose), ("ring", (0, True, 0)), ["ring", (0, 1, 0)]):
            self.assertIs(shows_verdict(knot, value), False)
        self.assertIs(shows_verdict(loose, ("lot", (0,))), True)
        self.assertIs(shows_verdict(knot, ("ring", (0, 1, 0))), True)


class TheseAreOne(unittest.TestCase):
    def test_what_holds(self):
        for board in tiny_boards():
            held = holds(board)
            self.assertEqual(ring_row(board) is not None, held)
            self.assertEqual(lifting(board) is None, held)
            self.assertEqual(all(len(set(angles)) == 1 for angles in plain_motions(board, 0, 2)), held)

    def test_what_lifts_off_shears_by_1(self):
        for board in larger_boards():
            lot = lifting(board)
            if lot is not None:
                self.assertTrue(is_motion(board, as_motion(board, lot)))
                self.assertEqual(set(as_motion(board, lot)), {0, 1})

    def test_closed_just_if_it_is_a_motion(self):
        for board in tiny_boards():
            lots = closed_lots(board)
            for lot in all_lots(board):
                angles = tuple(int(thread in lot) for thread in threads_of(board))
                self.assertEqual(lot in lots, is_motion(board, angles))

    def test_the_threads_of_a_motion_at_an_angle_or_above(self):
        for board in tiny_boards():
            lots = closed_lots(board)
            for angles in plain_motions(board, 0, 2):
                for angle in range(4):
                    lot = tuple(thread for thread in threads_of(board) if angles[thread] >= angle)
                    self.assertIn(lot, lots)

    def test_what_is_knotted_lifts_together(self):
        for board in larger_boards():
            for lot in closed_lots(board):
                for one, other in plain_steps(board):
                    if (other, one) in plain_steps(board):
                        self.assertEqual(one in lot, other in lot)


if __name__ == "__main__":
    unittest.main()
