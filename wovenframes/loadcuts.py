"""Cells that must be cut so that a load is not carried, or knotted so that it is."""

from itertools import combinations
from math import comb

from wovenframes.boards import check_board, steps, with_cell
from wovenframes.carrying import check_load, is_carried, load_on
from wovenframes.errors import TooMany
from wovenframes.lots import all_lots, closed_lots
from wovenframes.values import first_of

MOST_FILLS = 2000


def cells_beside(board, signs):
    """The ascending list of the cells that have none of some signs."""
    return [
        (row, column)
        for row in range(board.rows)
        for column in range(board.columns)
        if board.cells[row][column] not in signs
    ]


def cells_into(board, lot):
    """The ascending tuple of the cells by which threads beside a lot lead into it."""
    # Rows come ahead of columns, so that the lesser thread of a step is its row.
    return tuple(sorted({
        (min(one, other), max(one, other) - board.rows)
        for one, other in steps(board)
        if other in lot and one not in lot
    }))


def fewest_cuts(board, load):
    """How few cells must be cut so that a load is not carried, None for the load of noughts alone."""
    cuts = first_of(all_cuts(board, load))
    return None if cuts is None else len(cuts)


def all_cuts(board, load):
    """The ascending list of all ascending tuples of the fewest cells that must be cut."""
    check_board(board)
    check_load(board, load)
    # A lot with a load below 0 bars just if it is closed: all cells that lead into it must be cut.
    cuts = [cells_into(board, lot) for lot in all_lots(board) if load_on(load, lot) < 0]
    fewest = min([len(cells) for cells in cuts], default=0)
    return sorted({cells for cells in cuts if len(cells) == fewest})


def opened_by(board, cell, lots):
    """The integer with a bit for each of some lots that is not closed any more once a cell is knotted."""
    row, column = cell
    return sum([1 << at for at, lot in enumerate(lots) if (row in lot) != (board.rows + column in lot)])


def bits_together(numbers):
    """The integer with each bit that is in some of the numbers."""
    found = 0
    for number in numbers:
        found = found | number
    return found


def fewest_fills(board, load):
    """How few cells must be knotted so that a load is carried."""
    return len(first_fill(board, load))


def first_fill(board, load):
    """The least of the ascending tuples of the fewest cells that must be knotted."""
    check_board(board)
    check_load(board, load)
    barring = [lot for lot in closed_lots(board) if load_on(load, lot) < 0]
    able = cells_beside(board, ("x",))
    opened = {cell: opened_by(board, cell, barring) for cell in able}
    many = 0
    for size in range(len(able)):
        many += comb(len(able), size)
        if many > MOST_FILLS:
            raise TooMany(MOST_FILLS)
        for cells in combinations(able, size):
            if bits_together([opened[cell] for cell in cells]) == (1 << len(barring)) - 1:
                return cells
    # All are needed only where they make no ring, and are fewer than the threads: never too many.
    return tuple(able)


def spared_cells(board, load):
    """The ascending list of the cells, each of which can be cut alone with the load still carried."""
    check_board(board)
    check_load(board, load)
    return [
        (row, column)
        for row, column in cells_beside(board, (".",))
        if is_carried(with_cell(board, row, column, "."), load)
    ]
