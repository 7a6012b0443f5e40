"""Points 3 and 9: chains, and what lies over what."""

import unittest
from itertools import product

from plain import larger_boards, mixed_board, plain_chains, plain_leads, plain_steps, threads_of, tiny_boards

from wovenframes.boards import Board, flipped, turned
from wovenframes.chains import chain, leads, reached, reaching, shows_chain


class Chains(unittest.TestCase):
    def test_against_all_tuples_of_threads(self):
        for board in tiny_boards():
            many = len(threads_of(board))
            for one, other in product(threads_of(board), repeat=2):
                rows = plain_chains(board, one, other, many)
                self.assertEqual(leads(board, one, other), bool(rows))
                # They come by size, those of one size ascending.
                self.assertEqual(chain(board, one, other), rows[0] if rows else None)

    def test_larger_boards_against_pairs_joined(self):
        for board in larger_boards():
            pairs = plain_leads(board)
            for one, other in product(threads_of(board), repeat=2):
                self.assertIs(leads(board, one, other), (one, other) in pairs)
                row = chain(board, one, other)
                self.assertEqual(row is not None, (one, other) in pairs)
                if row is not None:
                    self.assertTrue(shows_chain(board, one, other, row))

    def test_the_least_of_the_shortest(self):
        board = mixed_board(3, 3, 2, "<>x")
        for one, other in product(threads_of(board), repeat=2):
            row = chain(board, one, other)
            if row is not None and len(row) <= 4:
                rows = plain_chains(board, one, other, len(row))
                self.assertEqual(row, rows[0])
        self.assertEqual(chain(Board(("xxx", "xxx")), 0, 1), (0, 2, 1))
        self.assertEqual(chain(Board(("xxx", "xxx")), 3, 4), (3, 0, 4))

    def test_a_long_chain(self):
        board = Board((">....", "<>...", ".<>..", "..<>.", "...<>"))
        self.assertEqual(chain(board, 0, 9), (0, 5, 1, 6, 2, 7, 3, 8, 4, 9))
        self.assertIsNone(chain(board, 9, 0))

    def test_from_a_thread_to_itself(self):
        for board in larger_boards():
            for thread in threads_of(board):
                self.assertIs(leads(board, thread, thread), True)
                self.assertEqual(chain(board, thread, thread), (thread,))
                self.assertIs(shows_chain(board, thread, thread, (thread,)), True)

    def test_turned_and_flipped(self):
        for board in larger_boards():
            for one, other in product(threads_of(board), repeat=2):
                self.assertEqual(leads(board, one, other), leads(turned(board), other, one))
                to_flipped = [(thread + board.columns) % len(board) if thread < board.rows else thread - board.rows
                              for thread in threads_of(board)]
                self.assertEqual(leads(board, one, other), leads(flipped(board), to_flipped[one], to_flipped[other]))

    def test_a_thread_that_makes_a_step_lies_over_the_other(self):
        for board in larger_boards():
            for row, column in product(range(board.rows), range(board.columns)):
                sign = board.cells[row][column]
                across = board.rows + column
                if sign in (">", "x"):
                    self.assertEqual(chain(board, row, across), (row, across))
                if sign in ("<", "x"):
                    self.assertEqual(chain(board, across, row), (across, row))


class ShowsChain(unittest.TestCase):
    def test_against_all_tuples_of_threads(self):
        for board in (Board((">x", ".<")), Board(("x",)), Board(("<>",)), Board((">", "<")), Board(("xx", "xx"))):
            many = len(threads_of(board))
            for one, other in product(threads_of(board), repeat=2):
                shown = set(plain_chains(board, one, other, 4))
                for size in range(5):
                    for row in product(range(many), repeat=size):
                        self.assertIs(shows_chain(board, one, other, row), row in shown)

    def test_longer_ways_count_too(self):
        board = Board(("x",))
        self.assertIs(shows_chain(board, 0, 1, (0, 1) * 50), True)
        self.assertIs(shows_chain(board, 0, 1, (0, 1) * 50 + (0,)), False)

    def test_any_value(self):
        board = Board((">x", "x<"))
        for value in (
            None, True, False, 0, 1, -1, "", "02", [], [0, 2], {}, {0: 2}, (), (0, True), (False, 2),
            (0, "2"), ("0", "2"), (0, None), (0, -2), (0, 4), (0, 99), ((0, 2),), ([0], [2]), ({}, {}), (0, (2,)),
            board, (board,), (0, [2]), (0, 0, 2), (0, 2, 2), (0, 1), (2, 0),
        ):
            with self.subTest(value=value):
                self.assertIs(shows_chain(board, 0, 2, value), False)
        self.assertIs(shows_chain(board, 0, 2, (0, 2)), True)


class Reached(unittest.TestCase):
    def test_against_pairs_joined(self):
        for board in [*tiny_boards(), *larger_boards()]:
            pairs = plain_leads(board)
            for thread in threads_of(board):
                ahead = [other for other in threads_of(board) if (thread, other) in pairs]
                behind = [one for one in threads_of(board) if (one, thread) in pairs]
                self.assertEqual([reached(board, thread), reaching(board, thread)], [ahead, behind])

    def test_without_steps_and_with_all(self):
        bare, knots = Board((".....",) * 5), Board(("xxxxx",) * 5)
        self.assertEqual(plain_steps(bare), [])
        for thread in range(10):
            self.assertEqual([reached(bare, thread), reaching(bare, thread)], [[thread], [thread]])
            self.assertEqual([reached(knots, thread), reaching(knots, thread)], [list(range(10))] * 2)


if __name__ == "__main__":
    unittest.main()
