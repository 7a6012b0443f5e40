"""Orders of work: the states behind them, where they end, and where they are stuck."""

from wovenframes.boards import check_board, is_cells_like
from wovenframes.builders import begun, check_builders, state_after
from wovenframes.errors import BadCells, BadOrder
from wovenframes.values import is_whole

LONGEST_ORDER = 18


def check_work_cells(board, builders, cells):
    """Raise the error of the first of these that is wrong."""
    check_board(board)
    check_builders(board, builders)
    if not is_cells_like(board, cells):
        raise BadCells()


def is_whole_work(builders, state):
    """Whether all deeds are done in a state."""
    return state[1] == tuple([len(deeds) for deeds in builders])


def states_after(builders, state):
    """The list of pairs (builder, state) for each builder whose next deed can be done, and the state behind it."""
    found = []
    for builder in range(len(builders)):
        after = state_after(builders, state, builder)
        if after is not None:
            found.append((builder, after))
    return found


def one_deed_on(builders, orders):
    """A dict: for each state one deed behind some states the least order to it, from a dict of theirs.

    In both dicts the orders ascend.
    """
    found = {}
    for state, order in orders.items():
        for builder, after in states_after(builders, state):
            # All orders to a state are of one length, and they come ascending, so that the first one is the least.
            if after not in found:
                found[after] = order + (builder,)
    return found


def states_by_deeds(board, builders):
    """The list, for no deed, one, two .. done, of dicts: for each state that comes then the least order to it."""
    found = []
    orders = {begun(board, builders): ()}
    while orders:
        found.append(orders)
        orders = one_deed_on(builders, orders)
    return found


def states_along(board, builders, order):
    """The list of the states ahead of an order and behind each of its deeds; BadOrder if it is none."""
    states = [begun(board, builders)]
    if not isinstance(order, tuple) or len(order) > LONGEST_ORDER:
        raise BadOrder(None)
    for index, builder in enumerate(order):
        if not is_whole(builder, 0, len(builders) - 1):
            raise BadOrder(index)
        after = state_after(builders, states[-1], builder)
        if after is None:
            raise BadOrder(index)
        states.append(after)
    return states


def state_behind(board, builders, order):
    """The state behind an order."""
    return states_along(board, builders, order)[-1]


def orders_to_ends(board, builders):
    """A dict: for each cells that can lie behind whole orders the least whole order to them."""
    # Behind all deeds it is told where each builder stands, so that a state is told by its cells.
    return {
        state[0]: order
        for state, order in states_by_deeds(board, builders)[-1].items()
        if is_whole_work(builders, state)
    }


def ends(board, builders):
    """The ascending list of the unlike cells that can lie behind whole orders."""
    return sorted(list(orders_to_ends(board, builders)))


def order_to(board, builders, cells):
    """The least whole order behind which some cells lie, or None."""
    check_work_cells(board, builders, cells)
    return orders_to_ends(board, builders).get(cells)


def many_orders(board, builders):
    """How many whole orders there are."""
    counts = {begun(board, builders): 1}
    for _ in range(sum([len(deeds) for deeds in builders])):
        further = {}
        for state, many in counts.items():
            for _, after in states_after(builders, state):
                further[after] = further.get(after, 0) + many
        counts = further
    return sum(list(counts.values()))


def first_stuck(board, builders):
    """The least of the shortest orders behind which no deed can be done, but some deed is not done; or None."""
    for orders in states_by_deeds(board, builders):
        stuck = [
            order
            for state, order in orders.items()
            if not is_whole_work(builders, state) and not states_after(builders, state)
        ]
        if stuck:
            return min(stuck)
    return None
