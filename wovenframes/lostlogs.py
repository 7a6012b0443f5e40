"""Logs of trials and mends, the breaks that fit them, and what is surely broken."""

from itertools import combinations

from wovenframes.boards import check_board, is_thread
from wovenframes.errors import BadLog, BadMost
from wovenframes.lots import in_order
from wovenframes.trials import all_along, check_break, is_marked, lot_along, marked_cells
from wovenframes.values import is_whole

LONGEST_LOG = 12
MOST_BROKEN = 2
LOOKS = ("+", "-", "?")


def is_sight(board, value):
    """Whether a value is a sight: a string of a sign for each thread."""
    return isinstance(value, str) and len(value) == len(board) and all([sign in LOOKS for sign in value])


def is_entry(board, value):
    """Whether a value is an entry of a log."""
    if not isinstance(value, tuple) or len(value) != 3:
        return False
    if value[0] == "trial":
        return is_thread(board, value[1]) and is_sight(board, value[2])
    return value[0] == "mend" and is_marked(board, value[1:])


def check_log(board, value):
    """Raise BadLog if a value is no tuple of at most 12 entries."""
    if not isinstance(value, tuple) or len(value) > LONGEST_LOG:
        raise BadLog(None)
    for index, entry in enumerate(value):
        if not is_entry(board, entry):
            raise BadLog(index)


def check_most(value):
    """Raise BadMost if a value is no integer from 0 to 2."""
    if not is_whole(value, 0, MOST_BROKEN):
        raise BadMost()


def check_logged(board, log, most):
    """Raise the error of the first of these that is wrong."""
    check_board(board)
    check_log(board, log)
    check_most(most)


def all_breaks(board, most):
    """The list, in turn, of all breaks of at most so many cells."""
    cells = marked_cells(board)
    return [lost for size in range(most + 1) for lost in combinations(cells, size)]


def is_told(sight, along):
    """Whether a sight, where somebody looked, tells which threads come along."""
    return all([sign == "?" or (sign == "+") == (thread in along) for thread, sign in enumerate(sight)])


def left_of(lost, log):
    """The cells of a break that are left behind a log."""
    return tuple([cell for cell in lost if ("mend",) + cell not in log])


def fits(board, lost, log):
    """Whether a break fits a log."""
    for at, entry in enumerate(log):
        if entry[0] == "trial" and not is_told(entry[2], lot_along(board, left_of(lost, log[:at]), entry[1])):
            return False
    return True


def does_fit(board, lost, log):
    """Whether each trial of a log tells what comes along on the board with what is left of a break then."""
    check_board(board)
    check_break(board, lost)
    check_log(board, log)
    return fits(board, lost, log)


def breaks_that_fit(board, log, most):
    """The list, in turn, of all breaks of at most so many cells that fit a log."""
    check_logged(board, log, most)
    return [lost for lost in all_breaks(board, most) if fits(board, lost, log)]


def left_behind(board, log, most):
    """The list, in turn, of all breaks that are left behind a log of those that fit it."""
    found = {left_of(lost, log): True for lost in breaks_that_fit(board, log, most)}
    return in_order(list(found))


def sure_cells(board, log, most):
    """A pair of tuples of cells: those that are surely broken behind a log, and those that surely are not; or None."""
    left = left_behind(board, log, most)
    if not left:
        return None
    cells = marked_cells(board)
    return (
        tuple([cell for cell in cells if all([cell in lost for lost in left])]),
        tuple([cell for cell in cells if not any([cell in lost for lost in left])]),
    )


def alike_breaks(board, most):
    """The list of lists of all breaks of at most so many cells, in each those that no trial tells apart."""
    check_board(board)
    check_most(most)
    groups = {}
    for lost in all_breaks(board, most):
        told = all_along(board, lost)
        groups[told] = groups.get(told, []) + [lost]
    return list(groups.values())
