"""Boards for the tests, and answers found by plain search straight from the words of the document.

Nothing here calls the program, but for `Board` itself.
"""

from itertools import combinations, permutations, product

from wovenframes.boards import Board

SIGNS = ".<>x"


def all_boards(rows, columns):
    """All boards of one size."""
    for signs in product(SIGNS, repeat=rows * columns):
        text = "".join(signs)
        yield Board(tuple(text[row * columns:(row + 1) * columns] for row in range(rows)))


def tiny_boards():
    """All boards of at most four threads."""
    for rows, columns in ((1, 1), (1, 2), (2, 1), (1, 3), (3, 1), (2, 2)):
        yield from all_boards(rows, columns)


def mixed_board(rows, columns, seed, signs=SIGNS):
    """A board whose signs look thrown, and are the same in each run."""
    number = seed * 7919 + rows * 31 + columns
    lines = []
    for _ in range(rows):
        line = ""
        for _ in range(columns):
            number = (number * 1103515245 + 12345) & 0x7FFFFFFF
            line += signs[(number >> 16) % len(signs)]
        lines.append(line)
    return Board(tuple(lines))


def larger_boards():
    """Boards of all sizes from 1 by 1 to 5 by 5: thrown ones, ones without steps, and all knots."""
    for rows in range(1, 6):
        for columns in range(1, 6):
            yield Board(("." * columns,) * rows)
            yield Board(("x" * columns,) * rows)
            for seed, signs in enumerate((SIGNS, "<>", "..<>", "...x", "<>>x", "<<>x")):
                yield mixed_board(rows, columns, seed, signs)


def five_by_five():
    """Thrown boards of five rows and five columns with many steps."""
    return [mixed_board(5, 5, seed, signs) for seed, signs in enumerate(("<>", "<>x", "<>xx", ".<>x", "<>x", "<>"), 40)]


def plain_steps(board):
    """The steps, by asking each pair of threads for its cell."""
    found = []
    for one in range(board.rows + board.columns):
        for other in range(board.rows + board.columns):
            if one < board.rows <= other and board.cells[one][other - board.rows] in (">", "x"):
                found.append((one, other))
            if other < board.rows <= one and board.cells[other][one - board.rows] in ("<", "x"):
                found.append((one, other))
    return found


def threads_of(board):
    return range(board.rows + board.columns)


def plain_chains(board, one, other, longest):
    """All chains of at most so many threads, out of all tuples of threads."""
    pairs = set(plain_steps(board))
    return [
        row
        for size in range(1, longest + 1)
        for row in product(threads_of(board), repeat=size)
        if row[0] == one and row[-1] == other and all(pair in pairs for pair in zip(row, row[1:]))
    ]


def plain_leads(board):
    """All pairs (one, other) such that the one leads to the other, by joining pairs end to end."""
    pairs = {(thread, thread) for thread in threads_of(board)} | set(plain_steps(board))
    while True:
        longer = {(one, last) for one, mid in pairs for mid_too, last in pairs if mid == mid_too}
        if longer <= pairs:
            return pairs
        pairs |= longer


def all_lots(board):
    """All lots, the smaller first, those of one size ascending."""
    return [lot for size in range(len(threads_of(board)) + 1) for lot in combinations(threads_of(board), size)]


def plain_is_closed(board, lot):
    return not any(other in lot and one not in lot for one, other in plain_steps(board))


def plain_closed_lots(board):
    pairs = plain_steps(board)
    return [lot for lot in all_lots(board) if not any(other in lot and one not in lot for one, other in pairs)]


def plain_parts(board):
    """The parts, by pairs of threads that lead to each other."""
    pairs = plain_leads(board)
    found = {
        tuple(other for other in threads_of(board) if (one, other) in pairs and (other, one) in pairs)
        for one in threads_of(board)
    }
    return sorted(found)


def plain_layers(board):
    """The least of all orders of the parts in which no step leads from a later one to an earlier one."""
    pairs = plain_steps(board)

    def is_fit(order):
        place = {thread: at for at, part in enumerate(order) for thread in part}
        return all(place[one] <= place[other] for one, other in pairs)

    # Permutations of what ascends come in ascending order.
    return next(list(order) for order in permutations(plain_parts(board)) if is_fit(order))


def plain_motions(board, least, greatest):
    """All tuples of integers between two for each thread by which no step leads to a greater one."""
    pairs = plain_steps(board)
    return [
        angles
        for angles in product(range(least, greatest + 1), repeat=len(threads_of(board)))
        if all(angles[other] <= angles[one] for one, other in pairs)
    ]


def plain_is_ring(board, row):
    pairs = plain_steps(board)
    return (
        len(row) >= 2
        and row[0] == row[-1]
        and all(pair in pairs for pair in zip(row, row[1:]))
        and set(row) == set(threads_of(board))
    )
