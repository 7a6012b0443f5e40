"""What holds and what is carried whichever break is left behind a log, or by some break."""

from wovenframes.carrying import check_load, is_carried
from wovenframes.errors import NoBreak
from wovenframes.lostlogs import check_logged, left_behind
from wovenframes.lots import holds
from wovenframes.trials import broken


def boards_left(board, log, most):
    """The list of the boards with each break that is left behind a log; NoBreak if there is none."""
    left = left_behind(board, log, most)
    if not left:
        raise NoBreak()
    return [broken(board, lost) for lost in left]


def surely_holds(board, log, most):
    """Whether the board holds with each break that is left behind a log."""
    return all([holds(left) for left in boards_left(board, log, most)])


def may_hold(board, log, most):
    """Whether the board holds with some break that is left behind a log."""
    return any([holds(left) for left in boards_left(board, log, most)])


def all_carried(board, log, most, load):
    """The list of whether a load is carried, for each break that is left behind a log."""
    check_logged(board, log, most)
    check_load(board, load)
    return [is_carried(left, load) for left in boards_left(board, log, most)]


def surely_carried(board, log, most, load):
    """Whether a load is carried with each break that is left behind a log."""
    return all(all_carried(board, log, most, load))


def may_carry(board, log, most, load):
    """Whether a load is carried with some break that is left behind a log."""
    return any(all_carried(board, log, most, load))
