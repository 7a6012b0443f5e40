"""Work of builders for the tests, and answers found by plain search straight from the document's words.

Nothing here calls the program, but for `Board` itself.
"""

from functools import lru_cache
from itertools import product

from plain import five_by_five, mixed_board, plain_leads, tiny_boards
from plainloads import mixed_numbers, with_signs

from wovenframes.boards import Board


def some_deed(board, seed):
    kind, row, column, sign, thread = mixed_numbers(seed, 5, 0, 10 ** 4)
    row, column, thread = row % board.rows, column % board.columns, thread % (board.rows + board.columns)
    return (
        ("fill", row, column, "<>x"[sign % 3]), ("cut", row, column), ("stand", thread), ("leave",), ("stand", thread),
        ("leave",), ("fill", row, column, "x"),
    )[kind % 7]


def some_builders(board, seed):
    """Builders whose deeds look thrown, and are the same in each run."""
    many = 1 + seed % 3
    return tuple(
        tuple(some_deed(board, seed * 100 + builder * 10 + at) for at in range((seed + 2 * builder) % 7))
        for builder in range(many)
    )


def plain_acted(builders, state, builder):
    """The state behind the next deed of a builder, as the words tell it, or None."""
    cells, done, threads = state
    if done[builder] >= len(builders[builder]):
        return None
    word, *rest = builders[builder][done[builder]]
    stands = list(threads)
    if word == "fill":
        row, column, sign = rest
        if cells[row][column] != ".":
            return None
        cells = with_signs(Board(cells), [(row, column)], sign)
    elif word == "cut":
        row, column = rest
        if cells[row][column] == ".":
            return None
        cells = with_signs(Board(cells), [(row, column)], ".")
    elif word == "stand":
        if stands[builder] is not None:
            return None
        stands[builder] = rest[0]
    else:
        if stands[builder] is None:
            return None
        stands[builder] = None
    stood = [thread for thread in stands if thread is not None]
    pairs = plain_leads(Board(cells)) if len(stood) > 1 else ()
    if len(stood) > 1 and not all((one, other) in pairs for one, other in product(stood, repeat=2)):
        return None
    return cells, tuple(many + (at == builder) for at, many in enumerate(done)), tuple(stands)


def states_that_come(board, builders):
    """All states behind any orders, by plain search from the first one."""
    first = (board.cells, (0,) * len(builders), (None,) * len(builders))
    found = [first]
    for state in found:
        for builder in range(len(builders)):
            after = plain_acted(builders, state, builder)
            if after is not None and after not in found:
                found.append(after)
    return found


def tried():
    """Boards with builders, of one and two cells and larger."""
    for seed, board in enumerate(list(tiny_boards())[::3]):
        yield board, some_builders(board, seed)
    for seed in range(150):
        board = mixed_board(1 + seed % 5, 1 + seed // 2 % 5, seed, ("<>x", "xx>", ".<>x", "x")[seed % 4])
        yield board, some_builders(board, seed + 300)
    for seed, board in enumerate(five_by_five()):
        yield board, some_builders(board, seed + 500)


def begin(board, builders):
    return board.cells, (0,) * len(builders), (None,) * len(builders)


def is_done(builders, state):
    return state[1] == tuple(len(deeds) for deeds in builders)


def all_orders(board, builders):
    """All orders, whole or not, each with the list of the states ahead of it and behind each of its deeds."""
    found = [((), [begin(board, builders)])]
    for order, states in found:
        for builder in range(len(builders)):
            after = plain_acted(builders, states[-1], builder)
            if after is not None:
                found.append((order + (builder,), states + [after]))
    return found


def first_order(orders):
    """The least of the shortest ones of some orders, or None."""
    return min(orders, key=lambda order: (len(order), order), default=None)


def short_builders(board, seed):
    """Builders with few deeds in all, so that all their orders can be tried."""
    builders = some_builders(board, seed)
    return tuple(deeds[:most] for deeds, most in zip(builders, ((6,), (4, 4), (3, 3, 2))[len(builders) - 1]))


def able_builders(board, seed):
    """Builders whose deeds can be done, one builder behind the other, and look thrown."""
    many = 1 + seed % 3
    cells, rows = board.cells, []
    for builder in range(many):
        deeds, stands = [], False
        for at in range((2, 3, 2, 4)[(seed + builder) % 4]):
            row, column, sign, kind = mixed_numbers(seed * 50 + builder * 10 + at, 4, 0, 10 ** 4)
            row, column = row % board.rows, column % board.columns
            if kind % 4 == 0:
                deeds.append(("leave",) if stands else ("stand", sign % (board.rows + board.columns)))
                stands = not stands
            elif cells[row][column] == ".":
                deeds.append(("fill", row, column, "<>x"[sign % 3]))
                cells = with_signs(Board(cells), [(row, column)], "<>x"[sign % 3])
            else:
                deeds.append(("cut", row, column))
                cells = with_signs(Board(cells), [(row, column)], ".")
        rows.append(tuple(deeds))
    return tuple(rows)


def some_works():
    for seed, board in enumerate(list(tiny_boards())[::4]):
        yield board, short_builders(board, seed)
        yield board, able_builders(board, seed)
    for seed in range(120):
        board = mixed_board(1 + seed % 4, 1 + seed // 2 % 4, seed, ("<>x", "xx>", "xx<>", "x")[seed % 4])
        yield board, able_builders(board, seed)
        yield board, short_builders(board, seed + 300)
    for seed, board in enumerate(five_by_five()):
        yield board, able_builders(board, seed)
    # Builders who want the same cells, so that it is not told by their places what lies there.
    for sign, first, second in product(".x", "<>", "<>x"):
        deeds = (("fill", 0, 0, first), ("cut", 0, 0)), (("cut", 0, 0), ("fill", 0, 0, second)), (("fill", 0, 0, "x"),)
        yield Board((sign,)), deeds
        yield Board((sign + "x", "x<")), deeds[::-1]
        yield Board((sign + "x", "xx")), (deeds[0] * 2, deeds[1] * 2)


@lru_cache(maxsize=None)
def tried_works():
    """Boards with builders and all their orders: triples (board, builders, pairs of an order and its states)."""
    return tuple((board, builders, all_orders(board, builders)) for board, builders in some_works())
