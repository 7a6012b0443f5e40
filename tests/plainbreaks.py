"""Breaks, logs and what comes along for the tests, found by plain search straight from the document's words.

Nothing here calls the program, but for `Board` itself.
"""

from functools import lru_cache
from itertools import combinations

from plain import all_lots, five_by_five, mixed_board, plain_leads, plain_steps, threads_of, tiny_boards
from plainloads import cells_with, mixed_numbers, with_signs

from wovenframes.boards import Board


def whole_cells(board):
    """The cells whose signs are not "."."""
    return cells_with(board, "<>x")


def plain_broken(board, lost):
    return Board(with_signs(board, lost, "."))


def plain_breaks(board, most):
    """All breaks of at most so many cells, the smaller first, those of one size ascending."""
    cells = whole_cells(board)
    return [lost for size in range(most + 1) for lost in combinations(cells, size)]


@lru_cache(maxsize=None)
def alongs(cells):
    """For each thread what comes along with it on a board of some cells: what leads to it."""
    board = Board(cells)
    pairs = plain_leads(board)
    return tuple(tuple(one for one in threads_of(board) if (one, thread) in pairs) for thread in threads_of(board))


def plain_along(board, lost, thread):
    return alongs(with_signs(board, lost, "."))[thread]


def least_closed_along(board, lost, thread):
    """What comes along, out of all lots: the smallest one that has the thread and into which no step leads."""
    pairs = plain_steps(plain_broken(board, lost))
    return next(
        lot for lot in all_lots(board) if thread in lot and not any(to in lot and one not in lot for one, to in pairs)
    )


def plain_left(lost, log):
    return tuple(cell for cell in lost if not any(entry[0] == "mend" and entry[1:] == cell for entry in log))


def plain_fits(board, lost, log):
    for at, entry in enumerate(log):
        if entry[0] == "trial":
            along = plain_along(board, plain_left(lost, log[:at]), entry[1])
            for thread, sign in enumerate(entry[2]):
                if sign != "?" and sign != ("+" if thread in along else "-"):
                    return False
    return True


def in_turn(breaks):
    return sorted(set(breaks), key=lambda lost: (len(lost), lost))


def plain_left_behind(board, log, most):
    return in_turn(plain_left(lost, log) for lost in plain_breaks(board, most) if plain_fits(board, lost, log))


def are_alike(board, one, other):
    """Whether no trial tells two breaks apart."""
    return alongs(with_signs(board, one, ".")) == alongs(with_signs(board, other, "."))


def some_log(board, seed):
    """A log that looks thrown: it tells of a break that is there, and now and then something else."""
    thrown = mixed_numbers(seed, 60, 0, 10 ** 4)
    cells = whole_cells(board)
    lost = tuple(sorted({cells[number % len(cells)] for number in thrown[:thrown[0] % 3]})) if cells else ()
    log = ()
    for at in range(seed % 5):
        kind, thread, row, odd, look = thrown[5 + at * 5:10 + at * 5]
        thread %= len(threads_of(board))
        if kind % 3 == 0 and cells:
            log += (("mend",) + cells[row % len(cells)],)
            continue
        along = plain_along(board, plain_left(lost, log), thread)
        sight = ""
        for other in threads_of(board):
            sight += "?" if (look >> other) % 3 == 0 else ("+" if other in along else "-")
        if odd % 9 == 0:
            sight = sight[1:] + sight[0]
        log += (("trial", thread, sight),)
    return log


def boards_with_breaks():
    """Boards of at most four threads, thrown ones and large ones."""
    yield from list(tiny_boards())[::5]
    for seed in range(60):
        yield mixed_board(1 + seed % 5, 1 + seed // 2 % 5, seed, ("<>", "<>x", ".<>", ".<>x", "xx<>", "x")[seed % 6])
    yield from five_by_five()


def small_boards():
    """Boards of few cells."""
    yield from list(tiny_boards())[::5]
    for seed in range(40):
        yield mixed_board(1 + seed % 3, 1 + seed // 3 % 3, seed, ("<>", "<>x", ".<>", "xx<>")[seed % 4])
