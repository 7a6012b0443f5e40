"""Work by several builders: their deeds, and the states of the work from deed to deed."""

from wovenframes.boards import Board, check_board, is_cells_like, is_thread, with_cell
from wovenframes.errors import BadBuilder, BadBuilders, BadState
from wovenframes.standing import can_stand
from wovenframes.values import is_cell, is_whole, put_at

MOST_BUILDERS = 3
MOST_DEEDS = 6
FILLS = ("<", ">", "x")


def is_deed(board, value):
    """Whether a value is a deed on the board."""
    if not isinstance(value, tuple) or not value:
        return False
    word, rest = value[0], value[1:]
    if word == "fill":
        return len(rest) == 3 and is_cell(board.cells, rest[:2]) and rest[2] in FILLS
    if word == "cut":
        return is_cell(board.cells, rest)
    if word == "stand":
        return len(rest) == 1 and is_thread(board, rest[0])
    return word == "leave" and not rest


def check_builders(board, value):
    """Raise BadBuilders if a value is no tuple of 1 to 3 builders, each a tuple of at most 6 deeds."""
    if not isinstance(value, tuple) or not 1 <= len(value) <= MOST_BUILDERS:
        raise BadBuilders(None, None)
    for builder, deeds in enumerate(value):
        if not isinstance(deeds, tuple) or len(deeds) > MOST_DEEDS:
            raise BadBuilders(builder, None)
        for place, deed in enumerate(deeds):
            if not is_deed(board, deed):
                raise BadBuilders(builder, place)


def are_places(builders, value):
    """Whether a value is a tuple of how many deeds are done, for each builder."""
    if not isinstance(value, tuple) or len(value) != len(builders):
        return False
    return all([is_whole(done, 0, len(deeds)) for done, deeds in zip(value, builders)])


def are_stood_on(board, builders, value):
    """Whether a value is a tuple of a thread, or None, for each builder."""
    if not isinstance(value, tuple) or len(value) != len(builders):
        return False
    return all([thread is None or is_thread(board, thread) for thread in value])


def check_state(board, builders, value):
    """Raise BadState if a value is no state of the work, whether it comes or not."""
    if not isinstance(value, tuple) or len(value) != 3:
        raise BadState()
    cells, done, threads = value
    if not is_cells_like(board, cells) or not are_places(builders, done) or not are_stood_on(board, builders, threads):
        raise BadState()


def begun(board, builders):
    """The state ahead of all deeds, where nobody stands."""
    check_board(board)
    check_builders(board, builders)
    return (board.cells, (0,) * len(builders), (None,) * len(builders))


def cells_behind(cells, deed):
    """The cells behind a deed, None if a cell is not as the deed wants it."""
    if deed[0] not in ("fill", "cut"):
        return cells
    row, column = deed[1], deed[2]
    if (cells[row][column] == ".") != (deed[0] == "fill"):
        return None
    return with_cell(Board(cells), row, column, deed[3] if deed[0] == "fill" else ".").cells


def thread_behind(thread, deed):
    """The thread, or None, on which a builder stands behind a deed of theirs."""
    if deed[0] == "stand":
        return deed[1]
    return None if deed[0] == "leave" else thread


def is_ready(thread, deed):
    """Whether a builder who stands on a thread, or nowhere, stands as a deed of theirs wants it."""
    if deed[0] == "stand":
        return thread is None
    return deed[0] != "leave" or thread is not None


def state_after(builders, state, builder):
    """The state behind the next deed of a builder, None if there is none, or it cannot be done."""
    cells, done, threads = state
    if done[builder] == len(builders[builder]):
        return None
    deed = builders[builder][done[builder]]
    after = cells_behind(cells, deed)
    if after is None or not is_ready(threads[builder], deed):
        return None
    stood = put_at(threads, builder, thread_behind(threads[builder], deed))
    if not can_stand(Board(after), tuple(sorted({thread for thread in stood if thread is not None}))):
        return None
    return (after, put_at(done, builder, done[builder] + 1), stood)


def movers(board, builders, state):
    """The ascending tuple of the builders whose next deed can be done."""
    check_board(board)
    check_builders(board, builders)
    check_state(board, builders, state)
    return tuple([
        builder for builder in range(len(builders)) if state_after(builders, state, builder) is not None
    ])


def acted(board, builders, state, builder):
    """The state behind the next deed of a builder, None if there is none, or it cannot be done."""
    check_board(board)
    check_builders(board, builders)
    check_state(board, builders, state)
    if not is_whole(builder, 0, len(builders) - 1):
        raise BadBuilder()
    return state_after(builders, state, builder)
