"""Hidden breaks of cells, and trials that lift a thread to see what comes along."""

from wovenframes.boards import check_board, check_thread, steps, with_cell
from wovenframes.chains import distances
from wovenframes.errors import BadBreak
from wovenframes.loadcuts import cells_beside
from wovenframes.values import first_of, is_ascending, is_cell


def is_marked(board, value):
    """Whether a value is a cell of the board with a sign other than "." in it."""
    return is_cell(board.cells, value) and board.cells[value[0]][value[1]] != "."


def marked_cells(board):
    """The ascending list of the cells with a sign other than "." in them."""
    return cells_beside(board, (".",))


def check_break(board, value):
    """Raise BadBreak if a value is no ascending tuple of unlike cells with a sign other than "." in them."""
    if not isinstance(value, tuple) or not all([is_marked(board, cell) for cell in value]) or not is_ascending(value):
        raise BadBreak()


def broken(board, lost):
    """The board with the cells of a break leading nowhere."""
    check_board(board)
    check_break(board, lost)
    left = board
    for row, column in lost:
        left = with_cell(left, row, column, ".")
    return left


def lot_along(board, lost, thread):
    """The lot that comes along with a thread on a board with a break."""
    # Rows come ahead of columns, so that the lesser thread of a step is its row.
    back = [
        (other, one) for one, other in steps(board) if (min(one, other), max(one, other) - board.rows) not in lost
    ]
    return tuple(sorted(list(distances(back, thread))))


def all_along(board, lost):
    """The tuple, for each thread, of the lot that comes along with it on a board with a break."""
    return tuple([lot_along(board, lost, thread) for thread in range(len(board))])


def comes_along(board, lost, thread):
    """The least closed lot that has a thread, on the board with a break."""
    check_board(board)
    check_break(board, lost)
    check_thread(board, thread)
    return lot_along(board, lost, thread)


def sight_of(board, lost, thread):
    """The text of a sign for each thread: "+" if it comes along with a thread that is lifted, "-" if it stays."""
    along = comes_along(board, lost, thread)
    return "".join(["+" if other in along else "-" for other in range(len(board))])


def told_apart(board, one, other):
    """The least thread whose trial tells two breaks apart, or None."""
    check_board(board)
    check_break(board, one)
    check_break(board, other)
    pairs = list(zip(all_along(board, one), all_along(board, other)))
    return first_of([thread for thread, (lot, other_lot) in enumerate(pairs) if lot != other_lot])


def idle_cells(board):
    """The ascending list of the cells of which no trial tells the break of it alone from the break of none."""
    check_board(board)
    whole = all_along(board, ())
    return [cell for cell in marked_cells(board) if all_along(board, (cell,)) == whole]
