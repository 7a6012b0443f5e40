"""Work that is cut off: what can lie then, what was surely done, and where a load falls."""

from wovenframes.boards import Board
from wovenframes.carrying import check_load, is_carried
from wovenframes.workorders import check_work_cells, states_along, states_by_deeds


def all_states(board, builders):
    """The list of all states that come."""
    return [state for orders in states_by_deeds(board, builders) for state in list(orders)]


def stopped_boards(board, builders):
    """The ascending list of the unlike cells that can lie when work is cut off."""
    return sorted({state[0] for state in all_states(board, builders)})


def stopped_places(board, builders, cells):
    """The ascending list of how many deeds each builder can have done where some cells lie."""
    check_work_cells(board, builders, cells)
    return sorted({state[1] for state in all_states(board, builders) if state[0] == cells})


def surely_done(board, builders, cells):
    """The tuple of the least number of deeds of each builder where some cells lie, None if they cannot."""
    places = stopped_places(board, builders, cells)
    if not places:
        return None
    return tuple([min([done[builder] for done in places]) for builder in range(len(builders))])


def first_uncarried(board, builders, order, load):
    """The least number of deeds of an order behind which a load is not carried, or None."""
    states = states_along(board, builders, order)
    check_load(board, load)
    for done, state in enumerate(states):
        if not is_carried(Board(state[0]), load):
            return done
    return None
