"""Plans of trials that tell breaks apart, and the best single trial and its fewest looks."""

from wovenframes.boards import check_board, check_thread, is_thread
from wovenframes.errors import BadMany, TooMany
from wovenframes.lostlogs import alike_breaks, check_logged, check_most, left_behind
from wovenframes.lots import all_lots, is_lot
from wovenframes.trials import all_along, lot_along
from wovenframes.values import first_of, is_whole

MOST_LEFT = 3000
DEEPEST = 10


def all_outcomes(board, breaks):
    """A list: for each thread the ascending list of pairs (lot, bits) of what comes along, and by which breaks it does.

    Some breaks together are an integer, with a bit for each one's place in the list of them all.
    """
    rows = [all_along(board, lost) for lost in breaks]
    found = []
    for thread in range(len(board)):
        groups = {}
        for at, lots in enumerate(rows):
            groups[lots[thread]] = groups.get(lots[thread], 0) | (1 << at)
        found.append(sorted(groups.items()))
    return found


def outcomes_of(outcomes, left):
    """The ascending list of pairs (lot, bits) of one thread's trial, where some breaks are left."""
    return [(lot, bits & left) for lot, bits in outcomes if bits & left]


def unlike_breaks(board, most):
    """The list of breaks of at most so many cells, one of each list of those that no trial tells apart."""
    return [alike[0] for alike in alike_breaks(board, most)]


def all_left(outcomes, whole):
    """The ascending list of what can be left of some breaks by trials of any threads in any order, and by none."""
    found = {whole: True}
    edge = [whole]
    while edge:
        left = edge.pop()
        for trial in outcomes:
            for _, part in outcomes_of(trial, left):
                if part not in found:
                    found[part] = True
                    edge.append(part)
        if len(found) > MOST_LEFT:
            raise TooMany(MOST_LEFT)
    return sorted(list(found))


def depth_behind(trial, left, depths):
    """The least depth of a plan that begins with one thread's trial, None if it leaves all breaks that are left."""
    parts = [part for _, part in outcomes_of(trial, left)]
    if parts == [left]:
        return None
    return 1 + max([depths[part] for part in parts])


def best_threads(outcomes, whole):
    """A pair of dicts, for each of what can be left of some breaks: the least depth of a plan, its first thread."""
    depths = {}
    threads = {}
    # What is left behind a trial that tells something is a lesser integer, so that it comes earlier.
    for left in all_left(outcomes, whole):
        able = [(depth_behind(trial, left, depths), thread) for thread, trial in enumerate(outcomes)]
        depths[left], threads[left] = min([pair for pair in able if pair[0] is not None], default=(0, None))
    return depths, threads


def plan_from(outcomes, threads, left):
    """A plan of least depth for what is left of some breaks, by the first threads of such plans."""
    thread = threads[left]
    if thread is None:
        return ("end",)
    branches = [(lot, plan_from(outcomes, threads, part)) for lot, part in outcomes_of(outcomes[thread], left)]
    return (thread, tuple(branches))


def plan(board, most):
    """A plan of least depth for all breaks of at most so many cells."""
    breaks = unlike_breaks(board, most)
    outcomes = all_outcomes(board, breaks)
    whole = (1 << len(breaks)) - 1
    _, threads = best_threads(outcomes, whole)
    return plan_from(outcomes, threads, whole)


def fewest_trials(board, most):
    """The least depth of a plan for all breaks of at most so many cells."""
    breaks = unlike_breaks(board, most)
    whole = (1 << len(breaks)) - 1
    depths, _ = best_threads(all_outcomes(board, breaks), whole)
    return depths[whole]


def is_branch(board, value):
    """Whether a value is a pair of a lot and a thing."""
    return isinstance(value, tuple) and len(value) == 2 and is_lot(board, value[0])


def is_plan(board, outcomes, left, many, value):
    """Whether a value, any one, is a plan of a depth of at most many for what is left of some unlike breaks."""
    if value == ("end",):
        return left & (left - 1) == 0
    if many == 0 or not isinstance(value, tuple) or len(value) != 2:
        return False
    thread, branches = value
    if not is_thread(board, thread) or not isinstance(branches, tuple):
        return False
    if not all([is_branch(board, branch) for branch in branches]):
        return False
    parts = outcomes_of(outcomes[thread], left)
    if [lot for lot, _ in branches] != [lot for lot, _ in parts]:
        return False
    return all([
        is_plan(board, outcomes, part, many - 1, behind) for (_, part), (_, behind) in zip(parts, branches)
    ])


def shows_plan(board, most, many, value):
    """Whether a value, any one, is a plan of a depth of at most many for all breaks of at most so many cells."""
    check_board(board)
    check_most(most)
    if not is_whole(many, 0, DEEPEST):
        raise BadMany()
    breaks = unlike_breaks(board, most)
    return is_plan(board, all_outcomes(board, breaks), (1 << len(breaks)) - 1, many, value)


def most_left(board, breaks, thread):
    """How many of some breaks are left in the worst case by the trial of a thread; 0 if there are none."""
    lots = [lot_along(board, lost, thread) for lost in breaks]
    return max([lots.count(lot) for lot in lots], default=0)


def best_trial(board, log, most):
    """The first thread whose trial leaves the fewest breaks in the worst case, None if none tells two apart."""
    breaks = left_behind(board, log, most)
    worst = [most_left(board, breaks, thread) for thread in range(len(board))]
    return None if min(worst) == len(breaks) else worst.index(min(worst))


def look_unlike(lots, looks):
    """Whether each two of some unlike lots look unlike where some threads are looked at."""
    return len({tuple([thread in lot for thread in looks]) for lot in lots}) == len(lots)


def fewest_looks(board, log, most, thread):
    """The least of the smallest lots of threads at which to look so that what comes along looks unlike."""
    check_logged(board, log, most)
    check_thread(board, thread)
    along = sorted({lot_along(board, lost, thread) for lost in left_behind(board, log, most)})
    return first_of([looks for looks in all_lots(board) if look_unlike(along, looks)])
