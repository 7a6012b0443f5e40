"""Work along which the board holds, in whatever order it is done or in one that is chosen."""

from wovenframes.boards import Board
from wovenframes.builders import begun
from wovenframes.lots import holds
from wovenframes.workorders import one_deed_on, states_by_deeds


def is_firm(state):
    """Whether the board holds in a state."""
    return holds(Board(state[0]))


def firm_always(board, builders):
    """Whether the board holds in each state that comes."""
    return first_loose(board, builders) is None


def first_loose(board, builders):
    """The least of the shortest orders behind which the board does not hold, or None."""
    for orders in states_by_deeds(board, builders):
        loose = [order for state, order in orders.items() if not is_firm(state)]
        if loose:
            return min(loose)
    return None


def firm_order(board, builders):
    """The least whole order along which the board holds, ahead of and behind each deed; or None."""
    orders = {begun(board, builders): ()}
    for _ in range(sum([len(deeds) for deeds in builders])):
        orders = one_deed_on(builders, {state: order for state, order in orders.items() if is_firm(state)})
    return min([order for state, order in orders.items() if is_firm(state)], default=None)
