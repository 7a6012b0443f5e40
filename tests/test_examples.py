"""The examples of the interface, word by word."""

import unittest

from wovenframes import errors

BOARDS = '''
>>> from wovenframes.boards import Board, flipped, steps, turned, with_cell
>>> board = Board((">x", ".<"))
>>> [board.cells, board.rows, board.columns, len(board), steps(board)]
[('>x', '.<'), 2, 2, 4, [(0, 2), (0, 3), (3, 0), (3, 1)]]
>>> [flipped(board).cells, turned(board).cells, with_cell(board, 1, 0, "x").cells]
[('<.', 'x>'), ('<x', '.>'), ('>x', 'x<')]
>>> Board((">x", "."))
raises BadCells()
'''

CHAINS = '''
>>> from wovenframes.boards import Board
>>> from wovenframes.chains import chain, leads, reached, reaching, shows_chain
>>> board = Board((">x", ".<"))
>>> [leads(board, 3, 2), chain(board, 3, 2), chain(board, 2, 3), chain(board, 1, 1)]
[True, (3, 0, 2), None, (1,)]
>>> [shows_chain(board, 3, 2, (3, 0, 3, 0, 2)), shows_chain(board, 3, 2, (3, 2)), reached(board, 0), reaching(board, 1)]
[True, False, [0, 1, 2, 3], [0, 1, 3]]
'''

LOTS = '''
>>> from wovenframes.boards import Board, turned
>>> from wovenframes.lots import closed_lots, holds, is_closed, layers, least_closed, parts
>>> board = Board((">x", ".<"))
>>> [closed_lots(board), least_closed(board, (2,)), is_closed(board, (0, 1))]
[[(), (0, 3), (0, 1, 3), (0, 2, 3), (0, 1, 2, 3)], (0, 2, 3), False]
>>> [parts(board), layers(board), layers(turned(board)), holds(board), holds(Board(("x",)))]
[[(0, 3), (1,), (2,)], [(0, 3), (1,), (2,)], [(1,), (2,), (0, 3)], False, True]
'''

READINGS = '''
>>> from wovenframes.boards import Board
>>> from wovenframes.readings import as_load, as_motion, is_motion, lifting, shows_ring, shows_verdict, verdict
>>> board = Board((">x", ".<"))
>>> [lifting(board), as_motion(board, (0, 3)), as_load(board, (0, 3)), verdict(board)]
[(0, 3), (1, 0, 0, 1), (-1, 1, 0, 0), ('lot', (0, 3))]
>>> [is_motion(board, (5, 2, -1, 5)), is_motion(board, (1, 0, 0, 0)), lifting(Board((">", "<")))]
[True, False, (0,)]
>>> [shows_verdict(board, ("lot", (0, 1, 3))), shows_ring(Board(("x",)), (0, 1, 0)), shows_verdict(Board(("><", "<>")), verdict(Board(("><", "<>"))))]
[True, True, True]
>>> as_motion(board, (0,))
raises NotClosed()
'''

CARRYING = '''
>>> from wovenframes.boards import Board
>>> from wovenframes.carrying import barring_lot, is_carried, least_pull, pulls, shows_pulls
>>> board = Board((">x", ".<"))
>>> [is_carried(board, (2, -1, -1, 0)), pulls(board, (2, -1, -1, 0)), least_pull(board, (2, -1, -1, 0)), barring_lot(board, (2, -1, -1, 0))]
[True, (1, 1, 0, 1), 3, None]
>>> [is_carried(board, (-1, 1, 0, 0)), pulls(board, (-1, 1, 0, 0)), barring_lot(board, (-1, 1, 0, 0)), shows_pulls(board, (2, -1, -1, 0), (1, 2, 1, 1))]
[False, None, (0, 3), False]
'''

STRENGTHS = '''
>>> from wovenframes.boards import Board
>>> from wovenframes.strengths import first_to_break, greatest_factor, holding, is_held, shows_held, strained_lot, tight_lots
>>> board = Board((">x", ".<"))
>>> [is_held(board, (1, 2, 0, 1), (2, -1, -1, 0)), holding(board, (1, 2, 0, 1), (2, -1, -1, 0)), strained_lot(board, (1, 0, 0, 1), (2, -1, -1, 0))]
[True, (1, 1, 0, 1), (0,)]
>>> [greatest_factor(board, (1, 2, 0, 1), (2, -1, -1, 0)), tight_lots(board, (1, 2, 0, 1), (2, -1, -1, 0)), first_to_break(board, (1, 2, 0, 1), (2, -1, -1, 0))]
[(1, 1), [(0, 3), (0, 1, 3), (0, 2, 3)], [(0, 2), (3, 1)]]
>>> [greatest_factor(board, (5, 3, 0, 7), (2, 0, -2, 0)), shows_held(board, (1, 2, 1, 1), (2, -1, -1, 0), (1, 2, 1, 1))]
[(5, 2), True]
'''

PRICES = '''
>>> from wovenframes.boards import Board
>>> from wovenframes.prices import cheapest, greatest_pull, least_price, narrowest, price_paper, shows_price
>>> board = Board((">x", ".<"))
>>> [least_price(board, (1, 2, 0, 1), (3, 0, 0, 2), (2, -1, -1, 0)), cheapest(board, (1, 2, 0, 1), (3, 0, 0, 2), (2, -1, -1, 0)), least_price(board, (0, 0, 0, 0), (1, 1, 1, 1), (1, 0, -1, 0))]
[5, (1, 1, 0, 1), None]
>>> [shows_price(board, (1, 2, 1, 1), (3, 0, 0, 2), (2, -1, -1, 0), ((1, 1, 0, 1), (0, 2, 3, 0))), shows_price(board, (1, 2, 1, 1), (3, 0, 1, 2), (2, -1, -1, 0), ((1, 2, 1, 1), (0, 2, 3, 0)))]
[True, False]
>>> [greatest_pull(board, (5, 3, 0, 7), 0, 1), narrowest(board, (5, 3, 0, 7), 0, 1), greatest_pull(board, (5, 3, 0, 7), 1, 0), narrowest(board, (5, 3, 0, 7), 1, 0)]
[3, (0, 2), 0, (1,)]
'''

LOADCUTS = '''
>>> from wovenframes.boards import Board
>>> from wovenframes.loadcuts import all_cuts, fewest_cuts, fewest_fills, first_fill, spared_cells
>>> board = Board((">x", ".<"))
>>> [fewest_cuts(board, (2, -1, -1, 0)), all_cuts(board, (2, -1, -1, 0)), fewest_cuts(board, (-1, 1, 0, 0))]
[1, [((0, 0),), ((0, 1),), ((1, 1),)], 0]
>>> [fewest_fills(board, (-1, 1, 0, 0)), first_fill(board, (-1, 1, 0, 0)), spared_cells(board, (1, 0, -1, 0))]
[1, ((1, 1),), [(0, 1), (1, 1)]]
'''

MOTIONS = '''
>>> from wovenframes.boards import Board
>>> from wovenframes.motions import as_lots, count_motions, motions, of_lots
>>> board = Board((">x", ".<"))
>>> [motions(board, 1), count_motions(board, 2), count_motions(board, 99)]
[[(0, 0, 0, 0), (1, 0, 0, 1), (1, 0, 1, 1), (1, 1, 0, 1), (1, 1, 1, 1)], 14, 338350]

>>> from wovenframes.boards import Board
>>> from wovenframes.motions import as_lots, of_lots
>>> board = Board((">x", ".<"))
>>> [as_lots(board, (5, 2, -1, 5)), of_lots(board, -1, [((0, 3), 3), ((0, 1, 3), 3)]), as_lots(board, (4, 4, 4, 4))]
[(-1, (((0, 1, 3), 3), ((0, 3), 3))), (5, 2, -1, 5), (4, ())]
'''


def is_statement(source):
    """Whether an example's line is to be run, and shows nothing."""
    return source.startswith("from ") or " = " in source.split("(")[0]


class Examples(unittest.TestCase):
    def check(self, text):
        names = {}
        lines = text.strip().split("\n")
        for line, wanted in zip(lines, lines[1:] + [""]):
            if not line.startswith(">>> "):
                continue
            source = line[4:]
            with self.subTest(source=source):
                if is_statement(source):
                    exec(source, names)
                elif wanted.startswith("raises "):
                    self.check_error(source, names, wanted[len("raises "):])
                else:
                    self.assertEqual(repr(eval(source, names)), wanted)

    def check_error(self, source, names, wanted):
        error = eval(wanted, vars(errors).copy())
        with self.assertRaises(errors.WovenError) as caught:
            eval(source, names)
        self.assertIs(caught.exception.__class__, error.__class__)
        self.assertEqual(vars(caught.exception), vars(error))

    def test_boards(self):
        self.check(BOARDS)

    def test_chains(self):
        self.check(CHAINS)

    def test_lots(self):
        self.check(LOTS)

    def test_readings(self):
        self.check(READINGS)

    def test_carrying(self):
        self.check(CARRYING)

    def test_strengths(self):
        self.check(STRENGTHS)

    def test_prices(self):
        self.check(PRICES)

    def test_loadcuts(self):
        self.check(LOADCUTS)

    def test_motions(self):
        self.check(MOTIONS)


if __name__ == "__main__":
    unittest.main()
