"""Weaves of a picture that hold: whether there is one, one of them, how many, and why there is none."""

from wovenframes.boards import Board, is_cells, with_cell
from wovenframes.chains import distances
from wovenframes.lots import holds, is_lot
from wovenframes.pictures import (
    cells_of, check_shown, first_wrong, free_board, free_cells, seen, sign_at, threads_at, weaves, wrong_cells,
)
from wovenframes.readings import lifting, lifts_off
from wovenframes.values import first_of, is_cell


def touching(picture):
    """The list of the pairs of threads that touch, each both ways, in a picture or in the cells of a board."""
    pairs = [threads_at(picture, cell) for cell in cells_of(picture) if sign_at(picture, cell) != "."]
    return pairs + [(across, row) for row, across in pairs]


def bridges_of(picture, cells):
    """The list of those of some cells whose threads are not joined when the cell is taken out."""
    pairs = touching(picture)
    found = []
    for cell in cells:
        row, across = threads_at(picture, cell)
        left = [pair for pair in pairs if pair not in ((row, across), (across, row))]
        if across not in distances(left, row):
            found.append(cell)
    return found


def bridges(picture, colours):
    """The ascending list of the free cells that are bridges."""
    return bridges_of(picture, free_cells(picture, colours))


def holding_weave(picture, colours):
    """The cells of a weave that holds, or None."""
    if why_not(picture, colours) is not None:
        return None
    board = free_board(picture, colours)
    for row, column in free_cells(picture, colours):
        # Where there are no bridges, a free cell of a board that holds can be woven at least one way
        # with which it still holds (F. Boesch and R. Tindell, 1980).
        ahead = with_cell(board, row, column, ">")
        board = ahead if holds(ahead) else with_cell(board, row, column, "<")
    return board.cells


def shows_holding(picture, colours, value):
    """Whether a value, any one, is the cells of a weave that holds."""
    check_shown(picture, colours)
    if not is_cells(value) or (len(value), len(value[0])) != (len(picture), len(picture[0])):
        return False
    board = Board(value)
    return seen(board, colours) == picture and holds(board)


def why_not(picture, colours):
    """The first reason why no weave holds: ("cell", row, column), ("bridge", row, column) or ("lot", lot); or None."""
    cell = first_wrong(picture, colours)
    if cell is not None:
        return ("cell", cell[0], cell[1])
    cell = first_of(bridges(picture, colours))
    if cell is not None:
        return ("bridge", cell[0], cell[1])
    lot = lifting(free_board(picture, colours))
    return None if lot is None else ("lot", lot)


def shows_why(picture, colours, value):
    """Whether a value, any one, is a reason why no weave holds."""
    wrong = first_wrong(picture, colours)
    if not isinstance(value, tuple) or len(value) not in (2, 3):
        return False
    word, rest = value[0], value[1:]
    if word == "cell":
        return is_cell(picture, rest) and rest in wrong_cells(picture, colours)
    if word == "bridge":
        return is_cell(picture, rest) and rest in bridges(picture, colours)
    if word != "lot" or len(rest) != 1 or wrong is not None:
        return False
    board = free_board(picture, colours)
    return is_lot(board, rest[0]) and lifts_off(board, rest[0])


def many_holding(picture, colours):
    """How many weaves hold."""
    return len([cells for cells in weaves(picture, colours) if holds(Board(cells))])
