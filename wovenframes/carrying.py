"""Loads: which are carried, what carries them with the least numbers, and what bars them."""

from wovenframes.boards import check_board, steps
from wovenframes.errors import BadLoad
from wovenframes.lots import closed_lots
from wovenframes.values import are_numbers, are_whole, first_of

GREATEST_LOAD = 20


def check_load(board, value):
    """Raise BadLoad if a value is no load."""
    if not are_whole(value, len(board), -GREATEST_LOAD, GREATEST_LOAD) or sum(value) != 0:
        raise BadLoad()


def load_on(load, lot):
    """The load of the threads of a lot, together."""
    return sum([load[thread] for thread in lot])


def carried_by(board, numbers):
    """The load of which some numbers, one for each step, are a carrying."""
    load = [0] * len(board)
    for number, (one, other) in zip(numbers, steps(board)):
        load[one] += number
        load[other] -= number
    return tuple(load)


def is_carrying(board, load, value):
    """Whether a value, any one, is a carrying of a load."""
    if not are_numbers(value, len(steps(board))) or not all([number >= 0 for number in value]):
        return False
    return carried_by(board, value) == load


def free_ways(pairs, strengths, prices, carrying):
    """The list of the ways on which more can be pulled: (one, other, price, step, turn, room).

    A turn of -1 is a step gone against its sense: what it carries is taken back, and its price with it.
    """
    ways = []
    for step, (one, other) in enumerate(pairs):
        if carrying[step] < strengths[step]:
            ways.append((one, other, prices[step], step, 1, strengths[step] - carrying[step]))
        if carrying[step] > 0:
            ways.append((other, one, -prices[step], step, -1, carrying[step]))
    return ways


def least_heights(ways, starts):
    """A pair of dicts, for each thread that ways reach from some starts: the least price, and the last way to it."""
    heights = {thread: 0 for thread in starts}
    last = {}
    changed = True
    while changed:
        changed = False
        for way in ways:
            one, other, price, _, _, _ = way
            if one in heights and (other not in heights or heights[one] + price < heights[other]):
                heights[other] = heights[one] + price
                last[other] = way
                changed = True
    return heights, last


def cheapest_row(ways, left):
    """The ways, from the last one back, of least price to a thread that lacks load, from one that has some left.

    None if there are none.
    """
    heights, last = least_heights(ways, [thread for thread in range(len(left)) if left[thread] > 0])
    ends = [thread for thread in list(heights) if left[thread] < 0]
    if not ends:
        return None
    thread = min(ends, key=lambda end: heights[end])
    row = []
    while thread in last:
        row.append(last[thread])
        thread = last[thread][0]
    return row


def least_carrying(board, strengths, prices, load):
    """A carrying of least price of which no number is above the strength of its step, or None."""
    pairs = steps(board)
    carrying = [0] * len(pairs)
    left = list(load)
    while max(left) > 0:
        row = cheapest_row(free_ways(pairs, strengths, prices, carrying), left)
        if row is None:
            return None
        # A carrying stays the cheapest of what it carries if it grows along the cheapest row alone.
        start, end = row[-1][0], row[0][1]
        more = min([left[start], -left[end]] + [room for _, _, _, _, _, room in row])
        for _, _, _, step, turn, _ in row:
            carrying[step] += turn * more
        left[start] -= more
        left[end] += more
    return tuple(carrying)


def is_carried(board, load):
    """Whether a load has a carrying."""
    return pulls(board, load) is not None


def pulls(board, load):
    """A carrying of a load whose numbers have the least sum, or None."""
    check_board(board)
    check_load(board, load)
    many = len(steps(board))
    # With the least sum nothing goes in rings, so that no step carries more than all that is pulled.
    enough = sum([number for number in load if number > 0])
    return least_carrying(board, [enough] * many, [1] * many, load)


def least_pull(board, load):
    """The least sum of the numbers of a carrying of a load, or None."""
    carrying = pulls(board, load)
    return None if carrying is None else sum(carrying)


def shows_pulls(board, load, value):
    """Whether a value, any one, is a carrying of a load whose numbers have the least sum."""
    least = least_pull(board, load)
    return is_carrying(board, load, value) and sum(value) == least


def barring_lot(board, load):
    """The least of the smallest closed lots whose threads have a load below 0 together, or None."""
    check_board(board)
    check_load(board, load)
    return first_of([lot for lot in closed_lots(board) if load_on(load, lot) < 0])
