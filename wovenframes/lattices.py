"""Closed lots between threads, what closed lots are made of, idle steps, and boards that have just some closed lots."""

from wovenframes.boards import Board, check_board, check_thread, from_steps, steps
from wovenframes.chains import distances
from wovenframes.errors import BadLines, BadLots, NotClosed
from wovenframes.lots import closed_lots, in_order, is_closed, is_lot, least_closed, lies_in
from wovenframes.values import LONGEST_SIDE, first_of, is_whole


def lots_between(board, one, other):
    """The list of all closed lots that have a thread and lack another one, the smaller first."""
    check_board(board)
    check_thread(board, one)
    check_thread(board, other)
    return [lot for lot in closed_lots(board) if one in lot and other not in lot]


def least_between(board, one, other):
    """The closed lot with a thread and without another one that lies in all such, or None."""
    # What such lots have in common is such a lot, too: the first one, since no other one is as small.
    return first_of(lots_between(board, one, other))


def greatest_between(board, one, other):
    """The closed lot with a thread and without another one in which all such lie, or None."""
    # What such lots have together is such a lot, too: the last one, since no other one is as large.
    return first_of(lots_between(board, one, other)[::-1])


def generators(board):
    """The list of all generators, the smaller first, those of one size ascending."""
    check_board(board)
    # A thread that is in no smaller closed lot within a closed lot has that one for its least.
    return in_order(sorted({least_closed(board, (thread,)) for thread in range(len(board))}))


def made_by(board, lot):
    """The list of the fewest generators that have together just the threads of a closed lot."""
    if not is_closed(board, lot):
        raise NotClosed()
    within = [made for made in generators(board) if lies_in(made, lot)]
    return [made for made in within if not any([made != other and lies_in(made, other) for other in within])]


def is_idle(pairs, step):
    """Whether the first thread of a step leads to the second one by the other pairs, too."""
    one, other = step
    return other in distances([pair for pair in pairs if pair != step], one)


def idle_steps(board):
    """The ascending list of the steps that are idle each by itself."""
    pairs = steps(board)
    return [step for step in pairs if is_idle(pairs, step)]


def lean(board):
    """The board that is left if each step, ascending, is taken out that is idle then."""
    left = steps(board)
    for step in steps(board):
        if is_idle(left, step):
            left = [pair for pair in left if pair != step]
    return from_steps(board.rows, board.columns, left)


def check_lines(rows, columns):
    """Raise BadLines if a number of rows, or of columns, is none that a board can have."""
    for many in (rows, columns):
        if not is_whole(many, 1, LONGEST_SIDE):
            raise BadLines()


def check_lots(rows, columns, value):
    """Raise BadLots if a value is no list or tuple of unlike lots of so many rows and columns."""
    if not isinstance(value, (list, tuple)):
        raise BadLots(None)
    board = Board(("." * columns,) * rows)
    earlier = set()
    for index, lot in enumerate(value):
        if not is_lot(board, lot) or lot in earlier:
            raise BadLots(index)
        earlier.add(lot)


def all_leading(many, lots):
    """A list: for each of so many threads the list of those that are in each of some lots in which it is."""
    return [
        [one for one in range(many) if all([one in lot for lot in lots if thread in lot])]
        for thread in range(many)
    ]


def ring_steps(part, rows):
    """The fewest steps by which each thread of a part leads to each other one; none if none do."""
    above = [thread for thread in part if thread < rows]
    across = [thread for thread in part if thread >= rows]
    if not above or not across:
        return []
    # Each thread of the longer side needs a step from it and one to it, and no two of these are one step.
    pairs = []
    for at in range(max(len(above), len(across))):
        mid = across[at % len(across)]
        pairs.append((above[at % len(above)], mid))
        pairs.append((mid, above[(at + 1) % len(above)]))
    return pairs


def fewest_pairs(leading, rows):
    """The fewest steps by which just those threads lead to each thread that a list tells; too few if none do."""
    groups = sorted({
        tuple([one for one in leading[thread] if thread in leading[one]]) for thread in range(len(leading))
    })
    pairs = [step for part in groups for step in ring_steps(part, rows)]
    for group in groups:
        ahead = [other for other in groups if other != group and other[0] in leading[group[0]]]
        for other in ahead:
            # A part leads to one that has no part between them by a step of their own, any one.
            if not any([mid != other and other[0] in leading[mid[0]] for mid in ahead]):
                pairs.extend([(one, to) for one in other for to in group if (one < rows) != (to < rows)][:1])
    return pairs


def board_of(rows, columns, lots):
    """A board with the fewest steps whose closed lots are just some lots, or None."""
    check_lines(rows, columns)
    check_lots(rows, columns, lots)
    board = from_steps(rows, columns, fewest_pairs(all_leading(rows + columns, lots), rows))
    return board if closed_lots(board) == in_order(lots) else None


def fewest_steps(rows, columns, lots):
    """How many steps a board has at least whose closed lots are just some lots, or None."""
    board = board_of(rows, columns, lots)
    return None if board is None else len(steps(board))
