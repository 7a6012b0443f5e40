"""A desk: a board with a load and strengths on it, deeds that change them, and deeds taken back."""

from wovenframes.boards import (
    check_board, check_cell, check_thread, flipped, steps, turned, with_cell,
)
from wovenframes.carrying import GREATEST_LOAD, is_carried
from wovenframes.errors import BadNumber, TooHeavy
from wovenframes.readings import verdict
from wovenframes.strengths import GREATEST_STRENGTH
from wovenframes.values import is_whole, put_at


class Desk:
    """A board, a load on its threads, and a strength for each of its cells, be it empty or not."""

    def __init__(self, board):
        check_board(board)
        # What stands on the desk is never changed, but put in its place by something else.
        self._now = (board, (0,) * len(board), ((1,) * board.columns,) * board.rows)
        self._behind = []
        self._ahead = []

    @property
    def own_board(self):
        return self._now[0]

    @property
    def own_load(self):
        return self._now[1]

    @property
    def own_strengths(self):
        board, _, table = self._now
        # Rows come ahead of columns, so that the lesser thread of a step is its row.
        return tuple([table[min(one, other)][max(one, other) - board.rows] for one, other in steps(board)])

    def _do(self, board, load, table):
        self._behind.append(self._now)
        self._ahead = []
        self._now = (board, load, table)

    def put(self, row, column, sign):
        """Put a sign in a cell."""
        board, load, table = self._now
        self._do(with_cell(board, row, column, sign), load, table)

    def strengthen(self, row, column, number):
        """Give a cell a strength."""
        board, load, table = self._now
        check_cell(board, row, column)
        if not is_whole(number, 0, GREATEST_STRENGTH):
            raise BadNumber()
        self._do(board, load, put_at(table, row, put_at(table[row], column, number)))

    def shift(self, one, other, number):
        """Add a number to the load of a thread, and take it from that of another one."""
        board, load, table = self._now
        check_thread(board, one)
        check_thread(board, other)
        if not is_whole(number, -GREATEST_LOAD, GREATEST_LOAD):
            raise BadNumber()
        heavier = put_at(load, one, load[one] + number)
        shifted = put_at(heavier, other, heavier[other] - number)
        if max(shifted) > GREATEST_LOAD or min(shifted) < -GREATEST_LOAD:
            raise TooHeavy()
        self._do(board, shifted, table)

    def flip(self):
        """Make rows the columns, with the same steps, loads and strengths."""
        board, load, table = self._now
        across = tuple([tuple([line[column] for line in table]) for column in range(board.columns)])
        self._do(flipped(board), load[board.rows:] + load[:board.rows], across)

    def turn(self):
        """Turn each step, and the sign of each load."""
        board, load, table = self._now
        self._do(turned(board), tuple([-number for number in load]), table)

    def undo(self):
        """Take the last deed back that is in effect; whether there was one."""
        if not self._behind:
            return False
        self._ahead.append(self._now)
        self._now = self._behind.pop()
        return True

    def redo(self):
        """Do the deed again that was taken back last; whether there was one."""
        if not self._ahead:
            return False
        self._behind.append(self._now)
        self._now = self._ahead.pop()
        return True

    def verdict(self):
        """The verdict of the board."""
        return verdict(self._now[0])

    def does_carry(self):
        """Whether the load is carried."""
        return is_carried(self._now[0], self._now[1])

    def __len__(self):
        return len(self._behind)

    def copy(self):
        """An independent desk that stands as this one, with all that can be taken back or done again."""
        other = Desk(self._now[0])
        other._now = self._now
        other._behind = list(self._behind)
        other._ahead = list(self._ahead)
        return other
