"""Prices of steps: the cheapest carryings and what shows that they are; the greatest pulls between two threads."""

from wovenframes.boards import check_board, check_thread, steps
from wovenframes.carrying import check_load, free_ways, least_carrying, least_heights
from wovenframes.errors import BadPrices
from wovenframes.lots import all_lots
from wovenframes.strengths import check_strengths, shows_held, strength_out
from wovenframes.values import are_numbers, are_whole, first_of

GREATEST_PRICE = 9


def check_prices(board, value):
    """Raise BadPrices if a value is no prices."""
    if not are_whole(value, len(steps(board)), 0, GREATEST_PRICE):
        raise BadPrices()


def check_priced(board, strengths, prices, load):
    """Raise the error of the first of these that is wrong."""
    check_board(board)
    check_strengths(board, strengths)
    check_prices(board, prices)
    check_load(board, load)


def least_price(board, strengths, prices, load):
    """The least price of all carryings of a load within strengths, or None."""
    carrying = cheapest(board, strengths, prices, load)
    if carrying is None:
        return None
    return sum([number * price for number, price in zip(carrying, prices)])


def cheapest(board, strengths, prices, load):
    """A carrying of a load within strengths that has the least price, or None."""
    check_priced(board, strengths, prices, load)
    return least_carrying(board, strengths, prices, load)


def price_paper(board, strengths, prices, load):
    """A pair (carrying, heights) that shows a carrying of a load to be the cheapest, or None."""
    carrying = cheapest(board, strengths, prices, load)
    if carrying is None:
        return None
    threads = list(range(len(board)))
    heights, _ = least_heights(free_ways(steps(board), strengths, prices, carrying), threads)
    return (carrying, tuple([heights[thread] for thread in threads]))


def are_heights(board, strengths, prices, carrying, value):
    """Whether a value, any one, is the heights that show a carrying within strengths to be the cheapest."""
    if not are_numbers(value, len(board)):
        return False
    # On a way that is free, backward ones too, the height cannot grow by more than the price.
    ways = free_ways(steps(board), strengths, prices, carrying)
    return all([value[other] <= value[one] + price for one, other, price, _, _, _ in ways])


def shows_price(board, strengths, prices, load, value):
    """Whether a value, any one, is a price paper of a load."""
    check_priced(board, strengths, prices, load)
    if not isinstance(value, tuple) or len(value) != 2:
        return False
    carrying, heights = value
    if not shows_held(board, strengths, load, carrying):
        return False
    return are_heights(board, strengths, prices, carrying, heights)


def lots_out(board, strengths, one, other):
    """The list of pairs (lot, strength out of it) of the lots in which one thread is, and another one is not."""
    return [
        (lot, strength_out(board, strengths, lot))
        for lot in all_lots(board)
        if one in lot and other not in lot
    ]


def greatest_pull(board, strengths, one, other):
    """The greatest integer that can be pulled within strengths from one thread to another, None if both are one."""
    check_board(board)
    check_strengths(board, strengths)
    check_thread(board, one)
    check_thread(board, other)
    # What can be pulled is what the weakest lot between the two lets out (L. R. Ford and D. R. Fulkerson, 1956).
    return min([strength for _, strength in lots_out(board, strengths, one, other)], default=None)


def narrowest(board, strengths, one, other):
    """The least of the smallest lots with one thread, and not another one, that let out just the greatest pull."""
    greatest = greatest_pull(board, strengths, one, other)
    return first_of([lot for lot, strength in lots_out(board, strengths, one, other) if strength == greatest])
