"""Loads, strengths and prices for the tests, and answers found by plain search straight from the document's words.

Nothing here calls the program.
"""

from itertools import product

from plain import all_lots, plain_closed_lots, plain_steps, threads_of


def mixed_numbers(seed, many, least, greatest):
    """Numbers that look thrown, and are the same in each run."""
    number = seed * 6007 + many
    found = []
    for _ in range(many):
        number = (number * 1103515245 + 12345) & 0x7FFFFFFF
        found.append(least + (number >> 16) % (greatest - least + 1))
    return tuple(found)


def mixed_load(board, seed, greatest):
    """A load that looks thrown, of integers not beyond the greatest."""
    load = [0] * len(threads_of(board))
    for number, at, to in zip(*(mixed_numbers(seed + part, 12, 0, 10 ** 4) for part in (0, 100, 200))):
        one, other, more = at % len(load), to % len(load), number % (greatest + 1)
        if one != other and load[one] + more <= greatest and load[other] - more >= -greatest:
            load[one] += more
            load[other] -= more
    return tuple(load)


def mixed_strengths(board, seed, greatest=9, least=0):
    return mixed_numbers(seed, len(plain_steps(board)), least, greatest)


def noughts(board):
    return (0,) * len(threads_of(board))


def all_loads(board, greatest):
    """All loads of integers not beyond the greatest, and of no more than the greatest pulled in all."""
    return [
        load
        for load in product(range(-greatest, greatest + 1), repeat=len(threads_of(board)))
        if sum(load) == 0 and pulled_in_all(load) <= greatest
    ]


def pulled_in_all(load):
    return sum(number for number in load if number > 0)


def load_of(board, numbers):
    """The load of which some numbers for the steps are a carrying."""
    pairs = plain_steps(board)
    return tuple(
        sum(number for number, pair in zip(numbers, pairs) if pair[0] == thread)
        - sum(number for number, pair in zip(numbers, pairs) if pair[1] == thread)
        for thread in threads_of(board)
    )


def all_carryings(board, strengths):
    """A dict: for each load that is held the list of all its carryings within strengths."""
    found = {}
    for numbers in product(*(range(strength + 1) for strength in strengths)):
        found.setdefault(load_of(board, numbers), []).append(numbers)
    return found


def load_on(load, lot):
    return sum(load[thread] for thread in lot)


def out_of(board, strengths, lot):
    return sum(
        strength
        for strength, (one, other) in zip(strengths, plain_steps(board))
        if one in lot and other not in lot
    )


def plain_barring(board, load):
    """The first of the closed lots with a load below 0 together, or None."""
    return next((lot for lot in plain_closed_lots(board) if load_on(load, lot) < 0), None)


def plain_strained(board, strengths, load):
    return next((lot for lot in all_lots(board) if load_on(load, lot) > out_of(board, strengths, lot)), None)


def greatest_flow(rooms, start, end):
    """How much can go from a place to another one, where rooms tells how much each pair of places lets go."""
    rooms = dict(rooms)
    places = {place for pair in rooms for place in pair}
    sent = 0
    while True:
        behind, edge = {start: None}, [start]
        for one in edge:
            for other in places:
                if other not in behind and rooms.get((one, other), 0) > 0:
                    behind[other] = one
                    edge.append(other)
        if end not in behind:
            return sent
        row, place = [], end
        while behind[place] is not None:
            row.append((behind[place], place))
            place = behind[place]
        more = min(rooms[pair] for pair in row)
        for one, other in row:
            rooms[one, other] -= more
            rooms[other, one] = rooms.get((other, one), 0) + more
        sent += more


def plain_holds_load(board, strengths, load):
    """Whether a load has a carrying within strengths, numbers and strengths of any size."""
    rooms = dict(zip(plain_steps(board), strengths))
    for thread, number in enumerate(load):
        rooms["from", thread] = max(number, 0)
        rooms[thread, "to"] = max(-number, 0)
    return greatest_flow(rooms, "from", "to") == pulled_in_all(load)


def plain_carries(board, load):
    return plain_holds_load(board, (pulled_in_all(load),) * len(plain_steps(board)), load)


def plain_price(carrying, prices):
    return sum(number * price for number, price in zip(carrying, prices))


def can_be_cheaper(board, strengths, prices, carrying):
    """Whether more can be pulled in a ring, within strengths, with less price."""
    far = 10 ** 9
    least = {pair: far for pair in product(threads_of(board), repeat=2)}
    for (one, other), strength, price, number in zip(plain_steps(board), strengths, prices, carrying):
        if number < strength:
            least[one, other] = min(least[one, other], price)
        if number > 0:
            least[other, one] = min(least[other, one], -price)
    for mid in threads_of(board):
        for one, other in product(threads_of(board), repeat=2):
            least[one, other] = min(least[one, other], least[one, mid] + least[mid, other])
    return any(least[thread, thread] < 0 for thread in threads_of(board))


def with_signs(board, cells, sign):
    """The cells of a board once some of them have another sign."""
    return tuple(
        "".join(sign if (row, column) in cells else old for column, old in enumerate(signs))
        for row, signs in enumerate(board.cells)
    )


def cells_with(board, signs):
    """The ascending list of the cells that have one of some signs."""
    return [
        (row, column)
        for row, column in product(range(board.rows), range(board.columns))
        if board.cells[row][column] in signs
    ]
