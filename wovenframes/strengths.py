"""Strengths of steps: which loads are held, which lots are strained, and what breaks first."""

from math import gcd

from wovenframes.boards import check_board, steps
from wovenframes.carrying import check_load, is_carrying, least_carrying, load_on
from wovenframes.errors import BadStrengths
from wovenframes.lots import all_lots
from wovenframes.values import are_whole, first_of

GREATEST_STRENGTH = 9


def check_strengths(board, value):
    """Raise BadStrengths if a value is no strengths."""
    if not are_whole(value, len(steps(board)), 0, GREATEST_STRENGTH):
        raise BadStrengths()


def check_held(board, strengths, load):
    """Raise the error of the first of these that is wrong."""
    check_board(board)
    check_strengths(board, strengths)
    check_load(board, load)


def strength_out(board, strengths, lot):
    """The strengths of the steps that lead out of a lot, together."""
    return sum([
        strength
        for strength, (one, other) in zip(strengths, steps(board))
        if one in lot and other not in lot
    ])


def is_within(strengths, carrying):
    """Whether no number of a carrying is above the strength of its step."""
    return all([number <= strength for number, strength in zip(carrying, strengths)])


def is_held(board, strengths, load):
    """Whether a load has a carrying within strengths."""
    return holding(board, strengths, load) is not None


def holding(board, strengths, load):
    """A carrying of a load within strengths, or None."""
    check_held(board, strengths, load)
    return least_carrying(board, strengths, [0] * len(strengths), load)


def shows_held(board, strengths, load, value):
    """Whether a value, any one, is a carrying of a load within strengths."""
    check_held(board, strengths, load)
    return is_carrying(board, load, value) and is_within(strengths, value)


def strained_lot(board, strengths, load):
    """The least of the smallest lots whose load is above the strengths of the steps that lead out of it, or None."""
    check_held(board, strengths, load)
    return first_of([
        lot for lot in all_lots(board) if load_on(load, lot) > strength_out(board, strengths, lot)
    ])


def greatest_factor(board, strengths, load):
    """The greatest factor by which a load can be multiplied and is held, as (above, beneath); None for noughts."""
    check_held(board, strengths, load)
    best = None
    for lot in all_lots(board):
        above, beneath = strength_out(board, strengths, lot), load_on(load, lot)
        if beneath > 0 and (best is None or above * best[1] < best[0] * beneath):
            best = (above, beneath)
    if best is None:
        return None
    common = gcd(best[0], best[1])
    return (best[0] // common, best[1] // common)


def tight_lots(board, strengths, load):
    """The list of the lots by which the greatest factor is no greater, the smaller first."""
    factor = greatest_factor(board, strengths, load)
    if factor is None:
        return []
    return [
        lot
        for lot in all_lots(board)
        if load_on(load, lot) > 0
        and strength_out(board, strengths, lot) * factor[1] == factor[0] * load_on(load, lot)
    ]


def first_to_break(board, strengths, load):
    """The ascending list of the steps with a strength above 0 that lead out of some tight lot."""
    lots = tight_lots(board, strengths, load)
    return [
        (one, other)
        for strength, (one, other) in zip(strengths, steps(board))
        if strength > 0 and any([one in lot and other not in lot for lot in lots])
    ]
