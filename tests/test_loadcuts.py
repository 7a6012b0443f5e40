"""Point 16: how few cells must be cut so that a load is not carried, or knotted so that it is."""

import unittest
from itertools import combinations
from math import comb

from plain import all_boards, five_by_five, larger_boards, tiny_boards
from plainloads import (
    all_loads, cells_with, mixed_load, noughts, plain_barring, plain_carries, with_signs,
)

from wovenframes.boards import Board
from wovenframes.carrying import is_carried
from wovenframes.errors import TooMany
from wovenframes.loadcuts import all_cuts, fewest_cuts, fewest_fills, first_fill, spared_cells

EXAMPLE = Board((">x", ".<"))


def small_boards():
    """Boards of at most six cells, each with some loads."""
    boards = [*list(tiny_boards())[::2], *list(all_boards(2, 3))[::97], *list(all_boards(3, 2))[::89]]
    for at, board in enumerate(boards):
        loads = all_loads(board, 1)
        for load in loads[at % 3::3]:
            yield board, load
        yield board, mixed_load(board, at, 20)


def plain_cuts(board, load):
    """All ascending tuples of the fewest cells of all that must be cut; None if no cuts do."""
    for size in range(board.rows * board.columns + 1):
        found = [
            cells
            for cells in combinations(cells_with(board, ".<>x"), size)
            if plain_barring(Board(with_signs(board, cells, ".")), load) is not None
        ]
        if found:
            return found
    return []


def plain_fills(board, load):
    """All ascending tuples of the fewest cells that must be knotted."""
    for size in range(board.rows * board.columns + 1):
        found = [
            cells
            for cells in combinations(cells_with(board, ".<>"), size)
            if plain_barring(Board(with_signs(board, cells, "x")), load) is None
        ]
        if found:
            return found


class Cuts(unittest.TestCase):
    def test_against_all_tuples_of_cells(self):
        for board, load in small_boards():
            wanted = plain_cuts(board, load)
            self.assertEqual(all_cuts(board, load), wanted)
            self.assertEqual(fewest_cuts(board, load), len(wanted[0]) if wanted else None)

    def test_larger_boards_where_few_are_enough(self):
        seen = {0: 0, 1: 0, 2: 0}
        for at, board in enumerate([*larger_boards(), *five_by_five()]):
            load = mixed_load(board, at, 20)
            many = fewest_cuts(board, load)
            if many in seen:
                seen[many] += 1
                self.assertEqual(all_cuts(board, load), plain_cuts(board, load))
            elif many is not None:
                self.check_many(board, load, many)
        self.assertGreater(min(seen.values()), 5)

    def check_many(self, board, load, many):
        """Few pairs of cells are tried, none is enough; each tuple that is told is."""
        cells = cells_with(board, "<>x")
        for some in combinations(cells[::2], min(2, many - 1)):
            self.assertTrue(plain_carries(Board(with_signs(board, some, ".")), load))
        for some in all_cuts(board, load):
            self.assertEqual(len(some), many)
            self.assertFalse(plain_carries(Board(with_signs(board, some, ".")), load))

    def test_those_of_a_board_of_all_knots(self):
        whole = Board(("xxxxx",) * 5)
        lines = [tuple((row, column) for column in range(5)) for row in range(5)]
        lines += [tuple((row, column) for row in range(5)) for column in range(5)]
        self.assertEqual(fewest_cuts(whole, (20,) * 5 + (-20,) * 5), 5)
        self.assertEqual(all_cuts(whole, (20,) * 5 + (-20,) * 5), sorted(lines))
        self.assertEqual(all_cuts(whole, (1, -1) + (0,) * 8), sorted(lines[:2]))

    def test_not_carried_anyway(self):
        for board in larger_boards():
            for seed in range(3):
                load = mixed_load(board, seed, 20)
                if not plain_carries(board, load):
                    self.assertEqual([fewest_cuts(board, load), all_cuts(board, load)], [0, [()]])

    def test_noughts(self):
        for board in larger_boards():
            self.assertEqual([fewest_cuts(board, noughts(board)), all_cuts(board, noughts(board))], [None, []])

    def test_one_cell(self):
        self.assertEqual([all_cuts(Board((">",)), (1, -1)), all_cuts(Board((">",)), (-1, 1))], [[((0, 0),)], [()]])
        self.assertEqual([all_cuts(Board(("x",)), (-1, 1)), all_cuts(Board((".",)), (-1, 1))], [[((0, 0),)], [()]])

    def test_they_ascend_each_once(self):
        for board in [*larger_boards(), *five_by_five()]:
            cuts = all_cuts(board, mixed_load(board, 5, 20))
            self.assertEqual(cuts, sorted(set(cuts)))
            self.assertTrue(all(list(cells) == sorted(set(cells)) for cells in cuts))


class Fills(unittest.TestCase):
    def test_against_all_tuples_of_cells(self):
        for board, load in small_boards():
            wanted = plain_fills(board, load)
            self.assertEqual(first_fill(board, load), wanted[0])
            self.assertEqual(fewest_fills(board, load), len(wanted[0]))

    def test_larger_boards(self):
        seen = {}
        for at, board in enumerate([*larger_boards(), *five_by_five()]):
            load = mixed_load(board, at, 20 if at % 2 else 2)
            try:
                cells = first_fill(board, load)
            except TooMany:
                continue
            seen[len(cells)] = seen.get(len(cells), 0) + 1
            self.assertEqual(fewest_fills(board, load), len(cells))
            if len(cells) <= 2:
                self.assertEqual(cells, plain_fills(board, load)[0])
            else:
                self.assertTrue(plain_carries(Board(with_signs(board, cells, "x")), load))
        self.assertTrue(all(seen.get(size, 0) > 3 for size in range(5)))

    def test_a_load_that_is_carried_and_noughts(self):
        for board in larger_boards():
            self.assertEqual([fewest_fills(board, noughts(board)), first_fill(board, noughts(board))], [0, ()])
            load = mixed_load(board, 2, 9)
            if plain_carries(board, load):
                self.assertEqual([fewest_fills(board, load), first_fill(board, load)], [0, ()])

    def test_all_cells(self):
        self.assertEqual(first_fill(Board((".",)), (1, -1)), ((0, 0),))
        self.assertEqual(first_fill(Board(("...",)), (3, -1, -1, -1)), ((0, 0), (0, 1), (0, 2)))
        self.assertEqual(first_fill(Board(("<.<",)), (3, -1, -1, -1)), ((0, 0), (0, 1), (0, 2)))
        self.assertEqual(first_fill(Board(("<x<",)), (3, -1, -1, -1)), ((0, 0), (0, 2)))

    def test_as_many_tuples_as_the_cells_make(self):
        board = Board((".....",) * 3)
        self.assertEqual(sum(comb(15, size) for size in range(5)), 1941)
        load = (4, -1, -1, -1, -1, 0, 0, 0)
        self.assertEqual([fewest_fills(board, load), first_fill(board, load)], [4, ((0, 0), (0, 1), (1, 0), (2, 0))])
        board = Board((".....",) * 4 + ("xxx..",))
        self.assertEqual(sum(comb(22, size) for size in range(4)), 1794)
        load = (3, -1, -1, 0, 0, 0, 0, 0, 0, -1)
        self.assertEqual(first_fill(board, load), plain_fills(board, load)[0])
        self.assertEqual(fewest_fills(board, load), 3)

    def test_too_many(self):
        self.assertEqual(sum(comb(23, size) for size in range(4)), 2048)
        for board, load in (
            (Board((".....",) * 4 + ("xx...",)), (3, -1, -1, 0, 0, 0, 0, 0, 0, -1)),
            (Board(("....",) * 4), (4, -1, -1, -1, 0, -1, 0, 0)),
            (Board((".....",) * 5), (4, -1, -1, -1, -1, 0, 0, 0, 0, 0)),
        ):
            for call in (fewest_fills, first_fill):
                with self.assertRaises(TooMany) as caught:
                    call(board, load)
                self.assertEqual(caught.exception.most, 2000)
        self.assertEqual(fewest_fills(Board((".....",) * 5), (1, -1) + (0,) * 8), 2)

    def test_too_many_just_beyond_2000(self):
        for board in [*larger_boards(), *five_by_five()]:
            for seed in range(2):
                load = mixed_load(board, seed, 20)
                many = len(cells_with(board, ".<>"))
                try:
                    size = fewest_fills(board, load)
                except TooMany:
                    # What has no place within 2000 tuples is not found by the sizes that have.
                    sizes = [size for size in range(9) if sum(comb(many, one) for one in range(size + 1)) <= 2000]
                    last = max(sizes)
                    for cells in list(combinations(cells_with(board, ".<>"), last))[::7]:
                        self.assertFalse(plain_carries(Board(with_signs(board, cells, "x")), load))
                else:
                    self.assertLessEqual(sum(comb(many, one) for one in range(size + 1)), 2000)

    def test_cuts_are_never_too_many(self):
        board = Board(("xxxxx",) * 5)
        self.assertEqual(fewest_cuts(board, (5, 5, 5, 5, 5, -5, -5, -5, -5, -5)), 5)
        self.assertEqual([fewest_fills(board, (1,) * 5 + (-1,) * 5), first_fill(board, (1,) * 5 + (-1,) * 5)], [0, ()])


class Spared(unittest.TestCase):
    def test_against_each_cell_alone(self):
        for at, board in enumerate([*list(tiny_boards())[::3], *larger_boards(), *five_by_five()]):
            for load in (noughts(board), mixed_load(board, at, 2), mixed_load(board, at, 20)):
                wanted = [
                    cell for cell in cells_with(board, "<>x")
                    if plain_carries(Board(with_signs(board, (cell,), ".")), load)
                ]
                self.assertEqual(spared_cells(board, load), wanted)

    def test_not_carried_or_noughts(self):
        for board in larger_boards():
            self.assertEqual(spared_cells(board, noughts(board)), cells_with(board, "<>x"))
            load = mixed_load(board, 4, 20)
            if not is_carried(board, load):
                self.assertEqual(spared_cells(board, load), [])

    def test_a_cell_that_is_spared_is_no_cut(self):
        for board, load in small_boards():
            cuts = all_cuts(board, load)
            if fewest_cuts(board, load) == 1:
                cells = [(cell,) for cell in cells_with(board, "<>x") if cell not in spared_cells(board, load)]
                self.assertEqual(cuts, cells)


if __name__ == "__main__":
    unittest.main()
