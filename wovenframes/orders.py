"""Lift orders: how many there are, and each by its number."""

from wovenframes.errors import BadLiftOrder, BadPlace
from wovenframes.lots import closed_lots, is_closed, is_lot, parts, together
from wovenframes.values import is_whole


def count_endings(board):
    """A dict: for each closed lot how many orders there are in which the parts beside it can be lifted off."""
    groups = parts(board)
    many = {tuple(range(len(board))): 1}
    for lot in reversed(closed_lots(board)[:-1]):
        many[lot] = sum([many.get(together(lot, part), 0) for part in groups if part[0] not in lot])
    return many


def next_parts(board, endings, lifted):
    """The ascending list of pairs (part, many): a part that can be lifted off behind a lot, and the orders then."""
    beside = [part for part in parts(board) if part[0] not in lifted]
    return [(part, endings[together(lifted, part)]) for part in beside if together(lifted, part) in endings]


def count_orders(board):
    """How many lift orders there are."""
    return count_endings(board)[()]


def order_at(board, number):
    """The lift order with a number, counted from 0 in ascending order."""
    endings = count_endings(board)
    if not is_whole(number, 0, endings[()] - 1):
        raise BadPlace()
    order = ()
    lifted = ()
    while len(lifted) < len(board):
        able = next_parts(board, endings, lifted)
        at = 0
        while number >= able[at][1]:
            number -= able[at][1]
            at += 1
        order = order + (able[at][0],)
        lifted = together(lifted, able[at][0])
    return order


def is_lift_order(board, value):
    """Whether a value is a lift order."""
    if not isinstance(value, tuple) or not all([is_lot(board, part) for part in value]):
        return False
    if sorted(value) != parts(board):
        return False
    lifted = ()
    for part in value:
        lifted = together(lifted, part)
        if not is_closed(board, lifted):
            return False
    return True


def place_of(board, order):
    """The number of a lift order, counted from 0 in ascending order."""
    endings = count_endings(board)
    if not is_lift_order(board, order):
        raise BadLiftOrder()
    number = 0
    lifted = ()
    for part in order:
        number += sum([many for other, many in next_parts(board, endings, lifted) if other < part])
        lifted = together(lifted, part)
    return number
