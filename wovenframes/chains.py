"""Chains: which threads lead to which."""

from wovenframes.boards import check_board, check_thread, is_thread, steps, turned


def distances(pairs, start):
    """A dict: for each thread to which the start leads by some pairs, how many it takes at least."""
    away = {start: 0}
    edge = [start]
    while edge:
        further = []
        for one, other in pairs:
            if one in edge and other not in away:
                away[other] = away[one] + 1
                further.append(other)
        edge = further
    return away


def is_walk(board, value):
    """Whether a value is a tuple of one or more threads, each of which makes a step with the next one."""
    if not isinstance(value, tuple) or not value:
        return False
    if not all([is_thread(board, thread) for thread in value]):
        return False
    pairs = steps(board)
    return all([pair in pairs for pair in zip(value, value[1:])])


def leads(board, one, other):
    """Whether a thread leads to another one, or is the same."""
    return chain(board, one, other) is not None


def chain(board, one, other):
    """The least of the shortest chains from a thread to another one, or None."""
    check_board(board)
    check_thread(board, one)
    check_thread(board, other)
    away = distances(steps(turned(board)), other)
    if one not in away:
        return None
    row = [one]
    while row[-1] != other:
        nearer = away[row[-1]] - 1
        # The steps ascend, so that the first thread that is nearer is the least one.
        nexts = [ahead for behind, ahead in steps(board) if behind == row[-1] and away.get(ahead) == nearer]
        row.append(nexts[0])
    return tuple(row)


def shows_chain(board, one, other, value):
    """Whether a value, any one, is a chain from a thread to another one."""
    check_board(board)
    check_thread(board, one)
    check_thread(board, other)
    return is_walk(board, value) and value[0] == one and value[-1] == other


def reached(board, one):
    """The ascending list of the threads to which a thread leads."""
    check_board(board)
    check_thread(board, one)
    return sorted(list(distances(steps(board), one)))


def reaching(board, other):
    """The ascending list of the threads that lead to a thread."""
    check_board(board)
    check_thread(board, other)
    return sorted(list(distances(steps(turned(board)), other)))
