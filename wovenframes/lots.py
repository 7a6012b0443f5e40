"""Lots of threads: which are closed, and the parts of a board."""

from itertools import combinations

from wovenframes.boards import check_board, is_thread, steps
from wovenframes.chains import reached, reaching
from wovenframes.errors import BadLot
from wovenframes.values import is_ascending


def is_lot(board, value):
    """Whether a value is an ascending tuple of unlike threads, perhaps empty."""
    if not isinstance(value, tuple):
        return False
    return all([is_thread(board, thread) for thread in value]) and is_ascending(value)


def check_lot(board, value):
    """Raise BadLot if a value is no lot of the board's threads."""
    if not is_lot(board, value):
        raise BadLot()


def together(lot, other):
    """The lot of the threads that are in one of two lots, or in both."""
    return tuple(sorted(set(lot + other)))


def lies_in(lot, other):
    """Whether all threads of a lot are in another one."""
    return all([thread in other for thread in lot])


def in_order(lots):
    """The list of some lots, the smaller first, those of one size ascending."""
    return sorted(lots, key=lambda lot: (len(lot), lot))


def all_lots(board):
    """The list of all lots, closed or not, the smaller first, those of one size ascending."""
    return [lot for size in range(len(board) + 1) for lot in combinations(range(len(board)), size)]


def is_closed(board, lot):
    """Whether no step leads from a thread beside a lot to one in it."""
    check_board(board)
    check_lot(board, lot)
    return all([one in lot or other not in lot for one, other in steps(board)])


def closed_lots(board):
    """The list of all closed lots, the smaller first, those of one size ascending."""
    check_board(board)
    # A closed lot has with each thread all that lead to it: it is made of such lots, and none else is.
    found = {(): True}
    for thread in range(len(board)):
        least = tuple(reaching(board, thread))
        for lot in list(found):
            found[together(lot, least)] = True
    return in_order(list(found))


def least_closed(board, lot):
    """The smallest closed lot that has all threads of a lot."""
    check_board(board)
    check_lot(board, lot)
    found = lot
    for thread in lot:
        found = together(found, tuple(reaching(board, thread)))
    return found


def part_of(board, thread):
    """The part in which a thread is."""
    behind = reaching(board, thread)
    return tuple([other for other in reached(board, thread) if other in behind])


def parts(board):
    """The ascending list of the parts."""
    check_board(board)
    return sorted({part_of(board, thread) for thread in range(len(board))})


def layers(board):
    """The list of the parts in the order in which they can be lifted off, the least one first that can."""
    left = parts(board)
    order = []
    lifted = ()
    while left:
        # A part can come next just if nothing that is left beside it leads into it.
        able = [part for part in left if is_closed(board, together(lifted, part))]
        order.append(able[0])
        lifted = together(lifted, able[0])
        left.remove(able[0])
    return order


def holds(board):
    """Whether all threads are one part."""
    check_board(board)
    return len(part_of(board, 0)) == len(board)
