"""Point 2: boards, their steps, and boards made of boards."""

import unittest

from plain import SIGNS, larger_boards, mixed_board, plain_steps, tiny_boards

from wovenframes.boards import Board, flipped, steps, turned, with_cell
from wovenframes.errors import BadCells

BAD_CELLS = (
    None, True, False, 0, 3, -1, "", ">", ">x", [], [">"], [">x", ".<"], {}, {">": 1}, {0: ">"}, (),
    ("",), ("", ""), (">", ""), (">x", "."), (".", ">x"), ("......",), (".",) * 6, (".....", "......"), ("y",),
    ("X",), ("<>x ",), (".\n",), (" ",), (">", None), (None,), (True,), (0,), (">", 0), ((">",),), ([">"],),
    ({">": 1},), (b">",), ("<>", "<>", "<"), ("..", (".", ".")), ("..", [".", "."]), ("..", {".": 1, "x": 1}),
)


class Boards(unittest.TestCase):
    def test_properties_and_length(self):
        for board in larger_boards():
            cells = board.cells
            self.assertIsInstance(cells, tuple)
            self.assertEqual((board.rows, board.columns), (len(cells), len(cells[0])))
            self.assertEqual(len(board), len(cells) + len(cells[0]))

    def test_the_smallest_and_the_greatest(self):
        for sign in SIGNS:
            self.assertEqual(Board((sign,)).cells, (sign,))
            self.assertEqual(len(Board((sign,))), 2)
            self.assertEqual(len(Board((sign * 5,) * 5)), 10)
            self.assertEqual((Board((sign * 5,)).rows, Board((sign * 5,)).columns), (1, 5))
            self.assertEqual((Board((sign,) * 5).rows, Board((sign,) * 5).columns), (5, 1))

    def test_bad_cells(self):
        for cells in BAD_CELLS:
            with self.subTest(cells=cells), self.assertRaises(BadCells):
                Board(cells)

    def test_a_board_is_no_cells(self):
        with self.assertRaises(BadCells):
            Board(Board((".",)))
        with self.assertRaises(BadCells):
            Board((Board((".",)),))

    def test_equal_if_the_cells_are(self):
        boards = list(tiny_boards())
        for at, board in enumerate(boards):
            again = Board(tuple("".join(list(signs)) for signs in board.cells))
            self.assertTrue(board == again)
            self.assertFalse(board != again)
            for other in boards[at + 1:]:
                self.assertFalse(board == other)
                self.assertTrue(board != other)

    def test_equal_to_nothing_of_another_kind(self):
        board = Board((">x", ".<"))
        for other in (None, True, 4, ">x", board.cells, list(board.cells), {}, steps(board), [board], (board,)):
            with self.subTest(other=other):
                self.assertFalse(board == other)
                self.assertFalse(other == board)
                self.assertTrue(board != other)

    def test_defined_in_the_class_itself(self):
        for name in ("cells", "rows", "columns", "__len__", "__eq__"):
            self.assertIn(name, vars(Board))


class Steps(unittest.TestCase):
    def test_what_each_sign_leads(self):
        wanted = {".": [], ">": [(0, 1)], "<": [(1, 0)], "x": [(0, 1), (1, 0)]}
        for sign in SIGNS:
            self.assertEqual(steps(Board((sign,))), wanted[sign])

    def test_against_asking_each_pair(self):
        for board in [*tiny_boards(), *larger_boards()]:
            self.assertEqual(steps(board), plain_steps(board))

    def test_one_row_and_one_column(self):
        self.assertEqual(steps(Board(("<.>x",))), [(0, 3), (0, 4), (1, 0), (4, 0)])
        self.assertEqual(steps(Board(("<", ".", ">", "x"))), [(2, 4), (3, 4), (4, 0), (4, 3)])

    def test_no_steps_and_all_steps(self):
        self.assertEqual(steps(Board((".....",) * 5)), [])
        self.assertEqual(len(steps(Board(("xxxxx",) * 5))), 50)
        self.assertEqual(steps(Board(("xxxxx",) * 5))[0], (0, 5))
        self.assertEqual(steps(Board(("xxxxx",) * 5))[-1], (9, 4))


class Flipped(unittest.TestCase):
    def test_the_same_steps_between_the_same_threads(self):
        for board in larger_boards():
            other = flipped(board)
            self.assertEqual((other.rows, other.columns), (board.columns, board.rows))

            def place(thread):
                return thread - board.rows if thread >= board.rows else thread + board.columns

            self.assertEqual(steps(other), sorted((place(one), place(two)) for one, two in steps(board)))

    def test_twice_is_the_same(self):
        for board in [*tiny_boards(), *larger_boards()]:
            self.assertEqual(flipped(flipped(board)), board)


class Turned(unittest.TestCase):
    def test_each_step_the_other_way(self):
        for board in larger_boards():
            self.assertEqual(steps(turned(board)), sorted((other, one) for one, other in steps(board)))
            self.assertEqual((turned(board).rows, turned(board).columns), (board.rows, board.columns))

    def test_twice_is_the_same(self):
        for board in [*tiny_boards(), *larger_boards()]:
            self.assertEqual(turned(turned(board)), board)

    def test_flipped_and_turned_in_either_order(self):
        for board in larger_boards():
            self.assertEqual(flipped(turned(board)), turned(flipped(board)))


class WithCell(unittest.TestCase):
    def test_just_the_one_cell(self):
        for rows, columns in ((1, 1), (1, 5), (5, 1), (3, 2), (5, 5)):
            board = mixed_board(rows, columns, 1)
            for row in range(rows):
                for column in range(columns):
                    for sign in SIGNS:
                        cells = with_cell(board, row, column, sign).cells
                        for at in range(rows):
                            for across in range(columns):
                                same = (at, across) != (row, column)
                                wanted = board.cells[at][across] if same else sign
                                self.assertEqual(cells[at][across], wanted)

    def test_the_same_sign_gives_an_equal_board(self):
        board = Board((">x", ".<"))
        self.assertEqual(with_cell(board, 0, 1, "x"), board)

    def test_the_board_stays_as_it_is(self):
        board = Board((">x", ".<"))
        with_cell(board, 0, 0, "x")
        self.assertEqual(board.cells, (">x", ".<"))


if __name__ == "__main__":
    unittest.main()
