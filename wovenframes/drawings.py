"""Boards made of boards: threads drawn together or exchanged, pieces that do not touch, and parts cut along a line."""

from itertools import permutations

from wovenframes.boards import Board, check_board, from_steps, steps
from wovenframes.chains import distances
from wovenframes.errors import BadColumn, BadThreads, EmptyLot
from wovenframes.holdweaves import touching
from wovenframes.lots import check_lot, closed_lots, lies_in, parts
from wovenframes.values import are_whole, is_whole


def drawn_to(board, lot):
    """The tuple of which thread each thread becomes when those of a lot are drawn together."""
    check_board(board)
    check_lot(board, lot)
    if not lot:
        raise EmptyLot()
    stands = list(range(len(board)))
    gone = []
    for side in ([thread for thread in lot if thread < board.rows], [thread for thread in lot if thread >= board.rows]):
        for thread in side[1:]:
            stands[thread] = side[0]
            gone.append(thread)
    return tuple([stand - len([thread for thread in gone if thread < stand]) for stand in stands])


def drawn(board, lot):
    """The board in which the threads of a lot are drawn together."""
    there = drawn_to(board, lot)
    rows = len({there[thread] for thread in range(board.rows)})
    pairs = [(there[one], there[other]) for one, other in steps(board)]
    # The new row and the new column, if there are both, are knotted.
    ends = sorted({there[thread] for thread in lot})
    if len(ends) == 2:
        pairs.extend([(ends[0], ends[1]), (ends[1], ends[0])])
    return from_steps(rows, len(set(there)) - rows, pairs)


def lots_with(board, lot):
    """The list of the closed lots in which all threads of a lot are, or none."""
    check_board(board)
    check_lot(board, lot)
    if not lot:
        raise EmptyLot()
    return [
        closed
        for closed in closed_lots(board)
        if lies_in(lot, closed) or not any([thread in closed for thread in lot])
    ]


def bare(board):
    """The board with all parts of more than one thread drawn together."""
    check_board(board)
    done = board
    there = list(range(len(board)))
    for part in parts(board):
        if len(part) > 1:
            lot = tuple(sorted({there[thread] for thread in part}))
            moved = drawn_to(done, lot)
            done = drawn(done, lot)
            there = [moved[thread] for thread in there]
    return done


def is_order(board, value):
    """Whether a value is a tuple of all threads, first the rows, then the columns."""
    if not are_whole(value, len(board), 0, len(board) - 1) or len(set(value)) < len(board):
        return False
    return all([thread < board.rows for thread in value[:board.rows]])


def exchanged(board, order):
    """The board in which each thread is the one that stands in its place in an order."""
    check_board(board)
    if not is_order(board, order):
        raise BadThreads()
    return Board(tuple([
        "".join([board.cells[row][across - board.rows] for across in order[board.rows:]])
        for row in order[:board.rows]
    ]))


def column_texts(lines):
    """The list of the columns of some lines, each from above."""
    return ["".join([line[column] for line in lines]) for column in range(len(lines[0]))]


def matched(texts, wanted):
    """The least tuple of the places of some texts, each place once, in which they are those wanted, or None."""
    found = ()
    for text in wanted:
        able = [at for at in range(len(texts)) if texts[at] == text and at not in found]
        if not able:
            return None
        found = found + (able[0],)
    return found


def alike(one, other):
    """The least order by which exchanged makes another board of one, or None."""
    check_board(one)
    check_board(other)
    if (one.rows, one.columns) != (other.rows, other.columns):
        return None
    wanted = column_texts(other.cells)
    # Permutations of what ascends come in ascending order.
    for above in permutations(range(one.rows)):
        found = matched(column_texts([one.cells[row] for row in above]), wanted)
        if found is not None:
            return above + tuple([one.rows + column for column in found])
    return None


def pieces(board):
    """The ascending list of the lots of threads that are joined with one another."""
    check_board(board)
    pairs = touching(board.cells)
    return sorted({tuple(sorted(list(distances(pairs, thread)))) for thread in range(len(board))})


def parted(board, many):
    """A pair of boards: that of the first so many columns, and that of the others."""
    check_board(board)
    if not is_whole(many, 1, board.columns - 1):
        raise BadColumn()
    return (
        Board(tuple([signs[:many] for signs in board.cells])),
        Board(tuple([signs[many:] for signs in board.cells])),
    )
