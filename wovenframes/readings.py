"""Three readings of a board: lots that lift off, motions, loads; and what shows that it holds."""

from wovenframes.boards import check_board, steps
from wovenframes.chains import chain, is_walk
from wovenframes.errors import NotClosed, NotLifting
from wovenframes.lots import check_lot, closed_lots, holds, is_closed, is_lot
from wovenframes.values import are_whole, first_of

GREATEST_ANGLE = 10 ** 6


def lifts_off(board, lot):
    """Whether a lot is closed, and neither empty nor all threads."""
    return 0 < len(lot) < len(board) and is_closed(board, lot)


def lifting(board):
    """The least of the smallest lots that lift off, or None."""
    # The first closed lot is the empty one and the last one all threads, which do not lift off.
    return first_of(closed_lots(board)[1:-1])


def is_motion(board, value):
    """Whether a value, any one, is a motion."""
    check_board(board)
    if not are_whole(value, len(board), -GREATEST_ANGLE, GREATEST_ANGLE):
        return False
    return all([value[other] <= value[one] for one, other in steps(board)])


def as_motion(board, lot):
    """The motion with 1 for each thread of a closed lot, and 0 for each beside it."""
    if not is_closed(board, lot):
        raise NotClosed()
    return tuple([1 if thread in lot else 0 for thread in range(len(board))])


def as_load(board, lot):
    """The load with -1 for the least thread of a lot that lifts off, 1 for the least beside it."""
    check_board(board)
    check_lot(board, lot)
    if not lifts_off(board, lot):
        raise NotLifting()
    load = [0] * len(board)
    load[lot[0]] = -1
    load[min([thread for thread in range(len(board)) if thread not in lot])] = 1
    return tuple(load)


def ring_row(board):
    """A row of steps through all threads and back to the first one, or None."""
    if not holds(board):
        return None
    row = (0,)
    for thread in range(1, len(board)):
        row = row + chain(board, row[-1], thread)[1:]
    return row + chain(board, row[-1], 0)[1:]


def shows_ring(board, value):
    """Whether a value, any one, is a ring row."""
    check_board(board)
    if not is_walk(board, value) or value[0] != value[-1]:
        return False
    return all([thread in value for thread in range(len(board))])


def verdict(board):
    """The pair ("ring", a ring row), or ("lot", the lot that lifting tells) if there is none."""
    row = ring_row(board)
    if row is None:
        return ("lot", lifting(board))
    return ("ring", row)


def shows_verdict(board, value):
    """Whether a value, any one, is a ring row, or a lot that lifts off, with its word."""
    check_board(board)
    if not isinstance(value, tuple) or len(value) != 2:
        return False
    word, shown = value
    if word == "ring":
        return shows_ring(board, shown)
    return word == "lot" and is_lot(board, shown) and lifts_off(board, shown)
