"""Point 1: wrong inputs for each argument, and the error of the first one that is wrong."""

import unittest
from itertools import combinations

from wovenframes import boards, chains, errors, lots, readings
from wovenframes.boards import Board

BOARD = Board((">x<", ".<x"))

PLAIN = (None, "", "0", "x", [], [0], {}, {0: 0}, (), (0,), ((0,),), BOARD)

BAD_BOARDS = (
    None, True, False, 0, 1, -1, "", ">x<", [], [">x<", ".<x"], {}, {0: BOARD}, (), (">x<", ".<x"), (BOARD,), [BOARD],
    Board, errors.BadBoard(),
)
BAD_THREADS = (*PLAIN, True, False, -1, 5, 6, 10 ** 30, -(10 ** 30))
BAD_ROWS = (*PLAIN, True, False, -1, 2, 3, 10 ** 30)
BAD_COLUMNS = (*PLAIN, True, False, -1, 3, 4, 10 ** 30)
BAD_SIGNS = (
    None, "", "..", "<>", ".<", ">x", ".<>x", "X", " ", "0", 0, 1, True, False, [], ["x"], {}, {"x": 1}, (), ("x",),
    b"x", BOARD,
)
BAD_LOTS = (
    None, True, False, 0, 1, "", "0", [], [0], [0, 1], {}, {0: 1}, (0, 0), (1, 0), (0, 2, 1), (0, 1, 1), (-1,), (-1, 0),
    (5,), (0, 5), (0, 1, 2, 3, 4, 5), (10 ** 30,), (True,), (False,), (0, True), (False, 1), (None,), (0, None), ("0",),
    (0, "1"), ((0,),), ((),), ([0],), ([],), ({},), (0, [1]), BOARD, (BOARD,),
)

BAD = {
    "board": (BAD_BOARDS, errors.BadBoard),
    "one": (BAD_THREADS, errors.BadThread),
    "other": (BAD_THREADS, errors.BadThread),
    "row": (BAD_ROWS, errors.BadRow),
    "column": (BAD_COLUMNS, errors.BadColumn),
    "sign": (BAD_SIGNS, errors.BadSign),
    "lot": (BAD_LOTS, errors.BadLot),
}
GOOD = {"board": BOARD, "one": 0, "other": 4, "row": 1, "column": 2, "sign": ".", "lot": (0, 3), "value": None}

CALLS = (
    (boards.steps, ("board",)),
    (boards.flipped, ("board",)),
    (boards.turned, ("board",)),
    (boards.with_cell, ("board", "row", "column", "sign")),
    (chains.leads, ("board", "one", "other")),
    (chains.chain, ("board", "one", "other")),
    (chains.shows_chain, ("board", "one", "other", "value")),
    (chains.reached, ("board", "one")),
    (chains.reaching, ("board", "other")),
    (lots.is_closed, ("board", "lot")),
    (lots.closed_lots, ("board",)),
    (lots.least_closed, ("board", "lot")),
    (lots.parts, ("board",)),
    (lots.layers, ("board",)),
    (lots.holds, ("board",)),
    (readings.lifting, ("board",)),
    (readings.is_motion, ("board", "value")),
    (readings.as_motion, ("board", "lot")),
    (readings.as_load, ("board", "lot")),
    (readings.ring_row, ("board",)),
    (readings.shows_ring, ("board", "value")),
    (readings.verdict, ("board",)),
    (readings.shows_verdict, ("board", "value")),
)


def outcome(call, arguments):
    """The class of the error that a call raises, or None."""
    try:
        call(**arguments)
    except errors.WovenError as error:
        return error.__class__
    return None


class WrongInputs(unittest.TestCase):
    def test_the_calls_without_a_wrong_argument(self):
        for call, names in CALLS:
            with self.subTest(call=call.__name__):
                wrong = (errors.NotClosed, errors.NotLifting)
                self.assertIn(outcome(call, {name: GOOD[name] for name in names}), (None, *wrong))

    def test_one_wrong_argument(self):
        for call, names in CALLS:
            for name in names:
                values, wanted = BAD.get(name, ((), None))
                for value in values:
                    with self.subTest(call=call.__name__, name=name, value=value):
                        arguments = {other: GOOD[other] for other in names}
                        arguments[name] = value
                        self.assertIs(outcome(call, arguments), wanted)

    def test_two_wrong_arguments_the_first_one_tells(self):
        for call, names in CALLS:
            for first, second in combinations([name for name in names if name in BAD], 2):
                for one in BAD[first][0]:
                    for other in BAD[second][0]:
                        arguments = {name: GOOD[name] for name in names}
                        arguments[first], arguments[second] = one, other
                        self.assertIs(outcome(call, arguments), BAD[first][1], (call.__name__, one, other))

    def test_all_arguments_wrong(self):
        for call, names in CALLS:
            self.assertIs(outcome(call, {name: None for name in names}), errors.BadBoard)

    def test_each_row_and_column_and_thread_that_there_is(self):
        for row in range(2):
            for column in range(3):
                self.assertIsInstance(boards.with_cell(BOARD, row, column, "x"), Board)
        for thread in range(5):
            self.assertIn(thread, chains.reached(BOARD, thread))

    def test_a_lot_that_is_none_is_told_ahead_of_one_that_is_not_closed(self):
        board = Board((">x", ".<"))
        with self.assertRaises(errors.BadLot):
            readings.as_motion(board, (1, 0))
        with self.assertRaises(errors.NotClosed):
            readings.as_motion(board, (0, 1))
        with self.assertRaises(errors.BadLot):
            readings.as_load(board, (1, 0))
        with self.assertRaises(errors.NotLifting):
            readings.as_load(board, (0, 1))


if __name__ == "__main__":
    unittest.main()
