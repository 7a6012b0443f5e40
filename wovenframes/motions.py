"""Motions to an angle, their number, and the closed lots of which a motion is made."""

from math import comb

from wovenframes.boards import check_board
from wovenframes.chains import reached, reaching
from wovenframes.errors import BadAngle, BadHeights, BadMotion, TooHigh, TooMany
from wovenframes.lots import closed_lots, is_closed, is_lot
from wovenframes.readings import GREATEST_ANGLE, is_motion
from wovenframes.values import is_whole

GREATEST_LISTED = 9
GREATEST_COUNTED = 99
MOST_MOTIONS = 3000


def numbers_between(row, below, above, angle):
    """The list of the integers to an angle, not less than those of a row at some places, nor greater than at others."""
    low = max([0] + [row[place] for place in below])
    high = min([angle] + [row[place] for place in above])
    return list(range(low, high + 1))


def motions(board, angle):
    """The ascending list of all motions with integers from 0 to an angle."""
    check_board(board)
    if not is_whole(angle, 0, GREATEST_LISTED):
        raise BadAngle()
    if count_motions(board, angle) > MOST_MOTIONS:
        raise TooMany(MOST_MOTIONS)
    rows = [()]
    # Whatever obeys the threads so far, with all chains between them, can be told to its end.
    for thread in range(len(board)):
        below = [other for other in reached(board, thread) if other < thread]
        above = [other for other in reaching(board, thread) if other < thread]
        rows = [row + (number,) for row in rows for number in numbers_between(row, below, above, angle)]
    return rows


def count_ladders(board):
    """A list: how many ladders have no, one, two .. rungs.

    A ladder leads from the empty lot to all threads by closed lots, each within the next one and smaller.
    """
    marks = [sum([1 << thread for thread in lot]) for lot in closed_lots(board)]
    # The empty lot comes first, and the ladder to it has no rungs.
    many = [[1] + [0] * len(board)]
    for at in range(1, len(marks)):
        counts = [0] * (len(board) + 1)
        for lesser in range(at):
            if marks[lesser] & marks[at] == marks[lesser]:
                for size in range(len(board)):
                    counts[size + 1] += many[lesser][size]
        many.append(counts)
    return many[-1]


def count_motions(board, angle):
    """How many motions there are with integers from 0 to an angle."""
    check_board(board)
    if not is_whole(angle, 0, GREATEST_COUNTED):
        raise BadAngle()
    # Each ladder, with as many unlike integers as it has rungs, makes one motion.
    return sum([comb(angle + 1, size) * many for size, many in enumerate(count_ladders(board))])


def as_lots(board, motion):
    """The pair of the least integer of a motion, and the pairs (lot, height) of which it is made above it."""
    if not is_motion(board, motion):
        raise BadMotion()
    angles = sorted(set(motion))
    heights = [
        (tuple([thread for thread in range(len(board)) if motion[thread] >= high]), high - low)
        for low, high in zip(angles, angles[1:])
    ]
    return (angles[0], tuple(heights))


def is_height(board, value):
    """Whether a value is a pair of a closed lot and a height."""
    if not isinstance(value, tuple) or len(value) != 2:
        return False
    lot, height = value
    return is_lot(board, lot) and is_closed(board, lot) and is_whole(height, 0, GREATEST_ANGLE)


def check_heights(board, value):
    """Raise BadHeights if a value is no list or tuple of pairs of a closed lot and a height."""
    if not isinstance(value, (list, tuple)):
        raise BadHeights(None)
    for index, pair in enumerate(value):
        if not is_height(board, pair):
            raise BadHeights(index)


def of_lots(board, least, heights):
    """The motion in which each thread has the least integer, and the heights of all lots in which it is."""
    check_board(board)
    if not is_whole(least, -GREATEST_ANGLE, GREATEST_ANGLE):
        raise BadAngle()
    check_heights(board, heights)
    numbers = [least] * len(board)
    for lot, height in heights:
        for thread in lot:
            numbers[thread] += height
    if max(numbers) > GREATEST_ANGLE:
        raise TooHigh()
    return tuple(numbers)
