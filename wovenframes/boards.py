"""Boards: tables of cells, and the steps between their threads."""

from wovenframes.errors import BadBoard, BadCells, BadColumn, BadRow, BadSign, BadThread
from wovenframes.values import is_table, is_whole

SIGNS = (".", "<", ">", "x")
OTHER_WAY = {".": ".", "<": ">", ">": "<", "x": "x"}


class Board:
    """A table of cells. Its threads are its rows, from above, then its columns, from the left."""

    def __init__(self, cells):
        if not is_cells(cells):
            raise BadCells()
        self._cells = cells
        self._threads = tuple(range(len(cells) + len(cells[0])))

    @property
    def cells(self):
        return self._cells

    @property
    def rows(self):
        return len(self._cells)

    @property
    def columns(self):
        return len(self._cells[0])

    def __len__(self):
        return len(self._threads)

    def __eq__(self, other):
        return isinstance(other, Board) and self._cells == other._cells


def is_cells(value):
    """Whether a value is the cells of some board."""
    return is_table(value, SIGNS)


def is_cells_like(board, value):
    """Whether a value is the cells of a board with as many rows and columns."""
    return is_cells(value) and (len(value), len(value[0])) == (board.rows, board.columns)


def check_board(value):
    """Raise BadBoard if a value is no board."""
    if not isinstance(value, Board):
        raise BadBoard()


def is_thread(board, value):
    """Whether a value is a thread of the board."""
    return is_whole(value, 0, len(board) - 1)


def check_thread(board, value):
    """Raise BadThread if a value is no thread of the board."""
    if not is_thread(board, value):
        raise BadThread()


def check_cell(board, row, column):
    """Raise BadRow or BadColumn if a row or a column is none of the board."""
    if not is_whole(row, 0, board.rows - 1):
        raise BadRow()
    if not is_whole(column, 0, board.columns - 1):
        raise BadColumn()


def steps(board):
    """The ascending list of all steps, pairs (one, other) of threads."""
    check_board(board)
    found = []
    for row, signs in enumerate(board.cells):
        for column, sign in enumerate(signs):
            across = board.rows + column
            if sign in (">", "x"):
                found.append((row, across))
            if sign in ("<", "x"):
                found.append((across, row))
    return sorted(found)


def sign_for(ahead, back):
    """The sign of a cell that leads from its row to its column, and back, or not."""
    if ahead and back:
        return "x"
    if ahead:
        return ">"
    return "<" if back else "."


def from_steps(rows, columns, pairs):
    """The board with so many rows and columns whose steps are some pairs of threads."""
    return Board(tuple([
        "".join([
            sign_for((row, across) in pairs, (across, row) in pairs) for across in range(rows, rows + columns)
        ])
        for row in range(rows)
    ]))


def flipped(board):
    """The board whose rows are the columns, with the same steps between them."""
    check_board(board)
    # A step from a row to a column becomes one from a column to a row: its sign is another one.
    return Board(tuple([
        "".join([OTHER_WAY[signs[column]] for signs in board.cells])
        for column in range(board.columns)
    ]))


def turned(board):
    """The board with each step the other way."""
    check_board(board)
    return Board(tuple(["".join([OTHER_WAY[sign] for sign in signs]) for signs in board.cells]))


def with_cell(board, row, column, sign):
    """The board with another sign in one cell."""
    check_board(board)
    check_cell(board, row, column)
    if sign not in SIGNS:
        raise BadSign()
    lines = list(board.cells)
    lines[row] = lines[row][:column] + sign + lines[row][column + 1:]
    return Board(tuple(lines))
