"""Builders who stand on threads: whether they can, and what divides them if they cannot."""

from wovenframes.boards import check_board
from wovenframes.chains import reached
from wovenframes.errors import BadThreads
from wovenframes.lots import closed_lots, is_lot, lies_in
from wovenframes.values import first_of


def check_threads(board, value):
    """Raise BadThreads if a value is no ascending tuple of unlike threads."""
    if not is_lot(board, value):
        raise BadThreads()


def can_stand(board, threads):
    """Whether each of some threads leads to each other one."""
    check_board(board)
    check_threads(board, threads)
    return all([lies_in(threads, reached(board, thread)) for thread in threads])


def dividing_lot(board, threads):
    """The least of the smallest closed lots that have one of some threads and lack another one, or None."""
    check_board(board)
    check_threads(board, threads)
    return first_of([
        lot
        for lot in closed_lots(board)
        if any([thread in lot for thread in threads]) and not lies_in(threads, lot)
    ])
