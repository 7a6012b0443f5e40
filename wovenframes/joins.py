"""Boards joined at shared threads: the join, its closed lots, and the loads that its two boards carry together."""

from wovenframes.boards import check_board, from_steps, is_thread, steps
from wovenframes.carrying import carried_by, check_load, load_on, pulls
from wovenframes.errors import BadJoin, BadShared
from wovenframes.lots import closed_lots
from wovenframes.readings import lifting
from wovenframes.values import LONGEST_SIDE, are_numbers, is_ascending


def is_shared_pair(one, other, value):
    """Whether a value is a pair of a thread of one board and a thread of another, both rows or both columns."""
    if not isinstance(value, tuple) or len(value) != 2:
        return False
    if not is_thread(one, value[0]) or not is_thread(other, value[1]):
        return False
    return (value[0] < one.rows) == (value[1] < other.rows)


def check_shared(one, other, shared):
    """Raise the error of the first of these that is wrong."""
    check_board(one)
    check_board(other)
    if not isinstance(shared, tuple) or not all([is_shared_pair(one, other, pair) for pair in shared]):
        raise BadShared()
    # That no thread of the other board comes twice is not told by the order of the pairs.
    if not is_ascending([pair[0] for pair in shared]) or len({pair[1] for pair in shared}) < len(shared):
        raise BadShared()


def joined_sides(one, other, shared):
    """The pair of the numbers of rows and columns of a join."""
    rows = one.rows + other.rows - len([pair for pair in shared if pair[0] < one.rows])
    columns = one.columns + other.columns - len([pair for pair in shared if pair[0] >= one.rows])
    return rows, columns


def places(one, other, shared):
    """A pair of tuples: for each thread of one board, and of another, which thread of the join it is."""
    check_shared(one, other, shared)
    rows, columns = joined_sides(one, other, shared)
    if max(rows, columns) > LONGEST_SIDE:
        raise BadJoin()
    first = [thread if thread < one.rows else thread - one.rows + rows for thread in range(len(one))]
    second = [None] * len(other)
    for thread, partner in shared:
        second[partner] = first[thread]
    next_row, next_column = one.rows, rows + one.columns
    for thread in range(len(other)):
        if second[thread] is None and thread < other.rows:
            second[thread] = next_row
            next_row += 1
        elif second[thread] is None:
            second[thread] = next_column
            next_column += 1
    return tuple(first), tuple(second)


def moved_steps(board, there):
    """The list of the steps of a board between the threads that its own ones are in a join."""
    return [(there[behind], there[ahead]) for behind, ahead in steps(board)]


def joined(one, other, shared):
    """The board of the threads of two boards, those that are shared being one, with the steps of both."""
    first, second = places(one, other, shared)
    rows, columns = joined_sides(one, other, shared)
    return from_steps(rows, columns, moved_steps(one, first) + moved_steps(other, second))


def beside(one, other):
    """The join in which all rows are shared, the first with the first and so on."""
    check_board(one)
    check_board(other)
    if one.rows != other.rows:
        raise BadJoin()
    return joined(one, other, tuple([(row, row) for row in range(one.rows)]))


def beneath(one, other):
    """The join in which all columns are shared, the first with the first and so on."""
    check_board(one)
    check_board(other)
    if one.columns != other.columns:
        raise BadJoin()
    shared = tuple([(one.rows + column, other.rows + column) for column in range(one.columns)])
    return joined(one, other, shared)


def lot_in(there, lot):
    """The lot of those threads of a board that are in a lot of the join."""
    return tuple([thread for thread in range(len(there)) if there[thread] in lot])


def agreeing_lots(one, other, shared):
    """The list of the pairs of closed lots of two boards that agree on the shared threads."""
    board = joined(one, other, shared)
    first, second = places(one, other, shared)
    # What agrees is closed in the join, together, and a closed lot of the join is made of what agrees.
    return [(lot_in(first, lot), lot_in(second, lot)) for lot in closed_lots(board)]


def first_apart(one, other, shared):
    """The first pair of closed lots that agree, neither twice the empty one nor twice all threads, or None."""
    lot = lifting(joined(one, other, shared))
    if lot is None:
        return None
    first, second = places(one, other, shared)
    return (lot_in(first, lot), lot_in(second, lot))


def split_load(one, other, shared, load):
    """A pair of loads that the two boards carry, and that make a load of the join together, or None."""
    board = joined(one, other, shared)
    carrying = pulls(board, load)
    if carrying is None:
        return None
    first, second = places(one, other, shared)
    pulled = {step: number for step, number in zip(steps(board), carrying)}
    # What a step carries that both boards have is carried by the first one.
    ahead = moved_steps(one, first)
    behind = [0 if step in ahead else pulled[step] for step in moved_steps(other, second)]
    return carried_by(one, [pulled[step] for step in ahead]), carried_by(other, behind)


def is_any_load_carried(board, value):
    """Whether a value, any one, is a load of integers of any size that a board carries."""
    if not are_numbers(value, len(board)) or sum(value) != 0:
        return False
    # What is not carried has a closed lot that bars it (D. Gale, 1957).
    return all([load_on(value, lot) >= 0 for lot in closed_lots(board)])


def shows_split(one, other, shared, load, value):
    """Whether a value, any one, is a split of a load of the join."""
    board = joined(one, other, shared)
    check_load(board, load)
    if not isinstance(value, tuple) or len(value) != 2:
        return False
    if not is_any_load_carried(one, value[0]) or not is_any_load_carried(other, value[1]):
        return False
    made = [0] * len(board)
    for there, part in zip(places(one, other, shared), value):
        for thread, number in zip(there, part):
            made[thread] += number
    return tuple(made) == load
