"""Mends of a picture: the fewest cells to be given other colours so that a weave holds, and what shows that."""

from wovenframes.holdweaves import bridges_of
from wovenframes.loadcuts import bits_together, opened_by
from wovenframes.lots import closed_lots, holds, is_lot
from wovenframes.pictures import (
    LETTERS, cells_of, check_shown, choices, loose_board, sign_at, wrong_cells,
)
from wovenframes.readings import lifts_off
from wovenframes.values import is_ascending, is_cell


def letter_cells(picture):
    """The ascending list of the cells of a picture that have letters."""
    return [cell for cell in cells_of(picture) if sign_at(picture, cell) in LETTERS]


def does_mend(picture, colours, cells):
    """Whether some cells with letters make a weave hold, each given the colour of one of its threads."""
    if not all([cell in cells for cell in wrong_cells(picture, colours)]):
        return False
    # A cell that can be given either colour is as good as a free one.
    either = [cell for cell in letter_cells(picture) if cell in cells or len(choices(picture, colours, cell)) == 2]
    return holds(loose_board(picture, colours, cells)) and not bridges_of(picture, either)


def is_mend(picture, colours, value):
    """Whether a value, any one, is a mend."""
    check_shown(picture, colours)
    if not isinstance(value, tuple) or not all([is_cell(picture, cell) for cell in value]):
        return False
    if not is_ascending(value) or not all([sign_at(picture, cell) in LETTERS for cell in value]):
        return False
    return does_mend(picture, colours, value)


def barring_lots(picture, colours):
    """The list of the lots that lift off the loose board, those first that the fewest cells lead out of.

    A mend must have a cell that leads out of each: nothing else makes the board hold.
    """
    board = loose_board(picture, colours, ())
    cells = letter_cells(picture)
    return sorted(
        closed_lots(board)[1:-1],
        key=lambda lot: len([cell for cell in cells if opened_by(board, cell, [lot])]),
    )


def all_opened(picture, colours, lots):
    """A dict: for each cell with a letter the integer with a bit for each of some lots out of which it leads."""
    board = loose_board(picture, colours, ())
    return {cell: opened_by(board, cell, lots) for cell in letter_cells(picture)}


def all_near(opened, many):
    """A list: for each of so many lots the integer with a bit for each lot with which it has a cell in common."""
    numbers = list(opened.values())
    return [bits_together([bits for bits in numbers if bits >> at & 1]) for at in range(many)]


def lowest_bit(bits):
    """The place of the lowest bit of an integer."""
    return (bits & -bits).bit_length() - 1


def many_apart(near, left):
    """How many of some lots are found, one behind the other, that have no cell in common."""
    many = 0
    while left:
        left = left & ~near[lowest_bit(left)]
        many += 1
    return many


def can_open(opened, near, left, most):
    """Whether at most so many cells have one that leads out of each lot that is left."""
    if many_apart(near, left) > most:
        return False
    if not left:
        return True
    at = lowest_bit(left)
    for bits in list(opened.values()):
        if bits >> at & 1 and can_open(opened, near, left & ~bits, most - 1):
            return True
    return False


def opening_cells(opened, near):
    """The least of the ascending lists of the fewest cells that have one that leads out of each lot."""
    left = (1 << len(near)) - 1
    most = many_apart(near, left)
    while not can_open(opened, near, left, most):
        most += 1
    found = []
    for cell, bits in opened.items():
        # A cell comes in just if fewer cells are enough for what it leaves.
        if can_open(opened, near, left & ~bits, most - 1):
            found.append(cell)
            left = left & ~bits
            most -= 1
    return found


def first_mend(picture, colours):
    """The least of the smallest mends, or None."""
    check_shown(picture, colours)
    if not does_mend(picture, colours, letter_cells(picture)):
        return None
    lots = barring_lots(picture, colours)
    opened = all_opened(picture, colours, lots)
    return tuple(sorted(wrong_cells(picture, colours) + opening_cells(opened, all_near(opened, len(lots)))))


def lots_apart(options, near, able):
    """A list of the numbers of lots, one of each list of options, that have no cell in common, or None."""
    if not options:
        return []
    for at in options[0]:
        if able >> at & 1:
            rest = lots_apart(options[1:], near, able & ~near[at])
            if rest is not None:
                return [at] + rest
    return None


def lots_alone(opened, cells, cell, many):
    """The list of the numbers of the lots out of which one of some cells leads, and none of the others."""
    others = bits_together([opened[other] for other in cells if other != cell])
    return [at for at in range(many) if (opened[cell] & ~others) >> at & 1]


def mend_paper(picture, colours):
    """A pair (mend, lots) that shows that no mend is smaller, or None if there is no mend."""
    mend = first_mend(picture, colours)
    if mend is None:
        return None
    lots = barring_lots(picture, colours)
    opened = all_opened(picture, colours, lots)
    # As many lots as cells, with no cell in common: each of the cells leads out of a lot of its own.
    cells = [cell for cell in mend if choices(picture, colours, cell)]
    options = [lots_alone(opened, cells, cell, len(lots)) for cell in cells]
    found = lots_apart(options, all_near(opened, len(lots)), (1 << len(lots)) - 1)
    return (mend, tuple([lots[at] for at in found]))


def shows_mend(picture, colours, value):
    """Whether a value, any one, is a mend paper."""
    check_shown(picture, colours)
    if not isinstance(value, tuple) or len(value) != 2:
        return False
    mend, lots = value
    if not is_mend(picture, colours, mend) or not isinstance(lots, (list, tuple)):
        return False
    board = loose_board(picture, colours, ())
    if not all([is_lot(board, lot) and lifts_off(board, lot) for lot in lots]):
        return False
    for bits in list(all_opened(picture, colours, lots).values()):
        # More than one bit: the cell leads out of two of the lots.
        if bits & (bits - 1):
            return False
    return len(lots) == len([cell for cell in mend if choices(picture, colours, cell)])
