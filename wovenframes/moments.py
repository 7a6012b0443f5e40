"""Moments at which one more deed can be put in among others, the board holding all the time."""

from wovenframes.boards import Board, check_board
from wovenframes.builders import MOST_DEEDS, cells_behind, is_deed
from wovenframes.errors import BadDeed, BadDeeds
from wovenframes.lots import holds


def is_fill_or_cut(board, value):
    """Whether a value is a deed on the board by which a cell is filled or cut."""
    return is_deed(board, value) and value[0] in ("fill", "cut")


def check_deeds(board, value):
    """Raise BadDeeds if a value is no tuple of at most 6 fills and cuts."""
    if not isinstance(value, tuple) or len(value) > MOST_DEEDS:
        raise BadDeeds(None)
    for index, deed in enumerate(value):
        if not is_fill_or_cut(board, deed):
            raise BadDeeds(index)


def is_firm_row(board, deeds):
    """Whether all of some deeds can be done in turn, the board holding ahead of and behind each."""
    cells = board.cells
    for deed in deeds:
        if not holds(Board(cells)):
            return False
        cells = cells_behind(cells, deed)
        if cells is None:
            return False
    return holds(Board(cells))


def moments(board, deeds, deed):
    """The ascending list of all numbers of deeds behind which one more can be put in so that the board holds."""
    check_board(board)
    check_deeds(board, deeds)
    if not is_fill_or_cut(board, deed):
        raise BadDeed()
    return [at for at in range(len(deeds) + 1) if is_firm_row(board, deeds[:at] + (deed,) + deeds[at:])]


def latest(board, deeds, deed):
    """The greatest number of deeds behind which one more can be put in so that the board holds, or None."""
    return max(moments(board, deeds, deed), default=None)
