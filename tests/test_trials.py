"""Points 47 and 50: broken cells, trials, and what a trial tells apart."""

import unittest
from itertools import product

from plain import five_by_five, larger_boards, plain_closed_lots, tiny_boards
from plainbreaks import (
    alongs, boards_with_breaks, least_closed_along, plain_along, plain_breaks, plain_broken, whole_cells,
)
from plainloads import mixed_numbers

from wovenframes.boards import Board
from wovenframes.errors import BadBreak, BadThread
from wovenframes.trials import broken, comes_along, idle_cells, sight_of, told_apart

BOARD = Board((">x", ".<"))


def some_breaks(board, seed, many):
    """Breaks of any size that look thrown, with the one of none and the one of all."""
    cells = whole_cells(board)
    found = [(), tuple(cells)]
    for at in range(many):
        thrown = mixed_numbers(seed * 30 + at, max(1, len(cells)), 0, 3 + at % 4)
        found.append(tuple(cell for cell, number in zip(cells, thrown) if number == 0))
    return found


class Trials(unittest.TestCase):
    def test_all_breaks_of_small_boards(self):
        for board in list(tiny_boards())[::2]:
            for lost in plain_breaks(board, 4):
                self.assertEqual(broken(board, lost), plain_broken(board, lost))
                for thread in range(len(board)):
                    along = least_closed_along(board, lost, thread)
                    self.assertEqual(comes_along(board, lost, thread), along)
                    sight = "".join("+" if other in along else "-" for other in range(len(board)))
                    self.assertEqual(sight_of(board, lost, thread), sight)

    def test_thrown_breaks_of_larger_boards(self):
        for seed, board in enumerate([*larger_boards(), *five_by_five()]):
            for lost in some_breaks(board, seed, 4):
                left = broken(board, lost)
                self.assertEqual(left, plain_broken(board, lost))
                for thread in range(len(board)):
                    along = plain_along(board, lost, thread)
                    self.assertEqual(comes_along(board, lost, thread), along)
                    sight = sight_of(board, lost, thread)
                    self.assertEqual(tuple(at for at, sign in enumerate(sight) if sign == "+"), along)
                    self.assertEqual((len(sight), set(sight) | {"+", "-"}), (len(board), {"+", "-"}))

    def test_the_board_itself_stays(self):
        broken(BOARD, ((0, 0), (0, 1), (1, 1)))
        self.assertEqual(BOARD.cells, (">x", ".<"))
        self.assertEqual(broken(BOARD, ((0, 0), (0, 1), (1, 1))).cells, ("..", ".."))
        self.assertEqual(broken(BOARD, ()), BOARD)


class Apart(unittest.TestCase):
    def test_the_least_thread_that_tells(self):
        seen = {}
        for seed, board in enumerate(boards_with_breaks()):
            breaks = some_breaks(board, seed, 3) + plain_breaks(board, 1)[:3]
            for one, other in product(breaks, repeat=2):
                lots, others = (alongs(plain_broken(board, lost).cells) for lost in (one, other))
                wanted = next((thread for thread in range(len(board)) if lots[thread] != others[thread]), None)
                self.assertEqual(told_apart(board, one, other), wanted)
                seen[wanted] = seen.get(wanted, 0) + 1
        self.assertTrue(all(seen.get(thread, 0) > 5 for thread in (None, 0, 1, 2, 3, 4, 5)), seen)

    def test_just_if_the_closed_lots_are_unlike(self):
        seen = {True: 0, False: 0}
        for seed, board in enumerate(list(boards_with_breaks())[::2]):
            breaks = some_breaks(board, seed, 2) + plain_breaks(board, 1)[1:3]
            lots = [plain_closed_lots(plain_broken(board, lost)) for lost in breaks]
            for (one, own), (other, others) in product(zip(breaks, lots), repeat=2):
                self.assertIs(told_apart(board, one, other) is None, own == others)
                seen[own == others] += 1
        self.assertGreater(min(seen.values()), 50)

    def test_idle_cells(self):
        many = {}
        for board in [*boards_with_breaks(), *larger_boards()]:
            whole = alongs(board.cells)
            wanted = [cell for cell in whole_cells(board) if alongs(plain_broken(board, (cell,)).cells) == whole]
            self.assertEqual(idle_cells(board), wanted)
            many[len(wanted)] = many.get(len(wanted), 0) + 1
        self.assertTrue(all(many.get(size, 0) for size in (0, 1, 2, 3, 25)), many)

    def test_boards_without_steps_and_of_all_knots(self):
        self.assertEqual(idle_cells(Board((".....",) * 5)), [])
        self.assertEqual(len(idle_cells(Board(("xxxxx",) * 5))), 25)
        self.assertEqual(idle_cells(Board(("xx",))), [])
        self.assertIsNone(told_apart(Board((".",)), (), ()))


class WrongBreaks(unittest.TestCase):
    NONE = (
        None, True, 0, "", "00", [], [(0, 0)], {}, {(0, 0): 1}, (0, 0), ((0,),), ((0, 0, 0),), ([0, 0],), ((0, 0), (0, 0)),
        ((0, 1), (0, 0)), ((1, 1), (0, 1)), ((1, 0),), ((0, 0), (1, 0)), ((2, 0),), ((0, 2),), ((-1, 0),), ((0, -1),),
        ((True, 1),), ((0, False),), ((0, True),), ((None, 0),), ((0, None),), (("0", "0"),), ((0, "0"),), ((0, (0,)),),
        ((0, [0]),), (None,), (0,), ("00",), ((),), ({},), (((0, 0),),), BOARD, (BOARD,), ((BOARD, 0),), ((10 ** 30, 0),),
        ((0, 0), None), ((0, 0), (0, 1), (0, 1)), ((0, 0), (0, 1), (1, 1), (1, 2)),
    )

    def test_bad_breaks(self):
        for lost in self.NONE:
            with self.subTest(lost=lost):
                for call, rest in ((broken, ()), (comes_along, (0,)), (comes_along, (None,)), (sight_of, (0,)),
                                   (sight_of, (4,)), (told_apart, ((),)), (told_apart, (None,))):
                    with self.assertRaises(BadBreak):
                        call(BOARD, lost, *rest)
                with self.assertRaises(BadBreak):
                    told_apart(BOARD, ((0, 1),), lost)

    def test_cells_of_the_board_with_and_without_a_sign(self):
        for board in list(tiny_boards())[::9]:
            for row, column in product(range(board.rows), range(board.columns)):
                if board.cells[row][column] == ".":
                    with self.assertRaises(BadBreak):
                        broken(board, ((row, column),))
                else:
                    self.assertEqual(broken(board, ((row, column),)).cells[row][column], ".")

    def test_bad_threads(self):
        for thread in (None, True, False, -1, 4, 5, "0", (0,), [0], {}, 10 ** 30, BOARD):
            for call in (comes_along, sight_of):
                with self.subTest(thread=thread), self.assertRaises(BadThread):
                    call(BOARD, ((0, 1),), thread)


if __name__ == "__main__":
    unittest.main()
