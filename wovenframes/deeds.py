"""Deeds on a board: the board behind some, and the fewest that make one board into another."""

from wovenframes.boards import SIGNS, check_board, flipped, turned, with_cell
from wovenframes.errors import BadDeeds
from wovenframes.pictures import cells_of, sign_at
from wovenframes.values import first_of, is_cell

MOST_DEEDS = 30


def board_behind(board, deed):
    """The board behind a deed, None if a value, any one, is no deed on it."""
    if not isinstance(deed, tuple) or not deed:
        return None
    word, rest = deed[0], deed[1:]
    if word == "flip" and not rest:
        return flipped(board)
    if word == "turn" and not rest:
        return turned(board)
    if word != "put" or len(rest) != 3 or not is_cell(board.cells, rest[:2]) or rest[2] not in SIGNS:
        return None
    return with_cell(board, rest[0], rest[1], rest[2])


def replayed(board, deeds):
    """The board behind some deeds."""
    check_board(board)
    if not isinstance(deeds, (list, tuple)) or len(deeds) > MOST_DEEDS:
        raise BadDeeds(None)
    done = board
    for index, deed in enumerate(deeds):
        done = board_behind(done, deed)
        if done is None:
            raise BadDeeds(index)
    return done


def puts_to(board, other):
    """The list of the deeds that put the signs of another board of one size into a board, where they are unlike."""
    return [
        ("put", row, column, other.cells[row][column])
        for row, column in cells_of(board.cells)
        if sign_at(board.cells, (row, column)) != sign_at(other.cells, (row, column))
    ]


def deeds_to(board, other):
    """A list of the fewest deeds that make a board into another one, or None."""
    check_board(board)
    check_board(other)
    ways = []
    # A flip or a turn among other deeds does as much ahead of them, and twice it does nothing.
    for begun in ([], [("flip",)], [("turn",)], [("flip",), ("turn",)]):
        made = replayed(board, begun)
        if (made.rows, made.columns) == (other.rows, other.columns):
            ways.append(begun + puts_to(made, other))
    return first_of(sorted(ways, key=len))


def fewest_deeds(board, other):
    """How many deeds make a board into another one at least, or None."""
    deeds = deeds_to(board, other)
    return None if deeds is None else len(deeds)
