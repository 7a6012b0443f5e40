"""The examples of the interface, word by word."""

import unittest

from wovenframes import errors

BOARDS = '''
>>> from wovenframes.boards import Board, flipped, steps, turned, with_cell
>>> board = Board((">x", ".<"))
>>> [board.cells, board.rows, board.columns, len(board), steps(board)]
[('>x', '.<'), 2, 2, 4, [(0, 2), (0, 3), (3, 0), (3, 1)]]
>>> [flipped(board).cells, turned(board).cells, with_cell(board, 1, 0, "x").cells]
[('<.', 'x>'), ('<x', '.>'), ('>x', 'x<')]
>>> Board((">x", "."))
raises BadCells()
'''

CHAINS = '''
>>> from wovenframes.boards import Board
>>> from wovenframes.chains import chain, leads, reached, reaching, shows_chain
>>> board = Board((">x", ".<"))
>>> [leads(board, 3, 2), chain(board, 3, 2), chain(board, 2, 3), chain(board, 1, 1)]
[True, (3, 0, 2), None, (1,)]
>>> [shows_chain(board, 3, 2, (3, 0, 3, 0, 2)), shows_chain(board, 3, 2, (3, 2)), reached(board, 0), reaching(board, 1)]
[True, False, [0, 1, 2, 3], [0, 1, 3]]
'''

LOTS = '''
>>> from wovenframes.boards import Board, turned
>>> from wovenframes.lots import closed_lots, holds, is_closed, layers, least_closed, parts
>>> board = Board((">x", ".<"))
>>> [closed_lots(board), least_closed(board, (2,)), is_closed(board, (0, 1))]
[[(), (0, 3), (0, 1, 3), (0, 2, 3), (0, 1, 2, 3)], (0, 2, 3), False]
>>> [parts(board), layers(board), layers(turned(board)), holds(board), holds(Board(("x",)))]
[[(0, 3), (1,), (2,)], [(0, 3), (1,), (2,)], [(1,), (2,), (0, 3)], False, True]
'''

READINGS = '''
>>> from wovenframes.boards import Board
>>> from wovenframes.readings import as_load, as_motion, is_motion, lifting, shows_ring, shows_verdict, verdict
>>> board = Board((">x", ".<"))
>>> [lifting(board), as_motion(board, (0, 3)), as_load(board, (0, 3)), verdict(board)]
[(0, 3), (1, 0, 0, 1), (-1, 1, 0, 0), ('lot', (0, 3))]
>>> [is_motion(board, (5, 2, -1, 5)), is_motion(board, (1, 0, 0, 0)), lifting(Board((">", "<")))]
[True, False, (0,)]
>>> [shows_verdict(board, ("lot", (0, 1, 3))), shows_ring(Board(("x",)), (0, 1, 0)), shows_verdict(Board(("><", "<>")), verdict(Board(("><", "<>"))))]
[True, True, True]
>>> as_motion(board, (0,))
raises NotClosed()
'''


def is_statement(source):
    """Whether an example's line is to be run, and shows nothing."""
    return source.startswith("from ") or " = " in source.split("(")[0]


class Examples(unittest.TestCase):
    def check(self, text):
        names = {}
        lines = text.strip().split("\n")
        for line, wanted in zip(lines, lines[1:] + [""]):
            if not line.startswith(">>> "):
                continue
            source = line[4:]
            with self.subTest(source=source):
                if is_statement(source):
                    exec(source, names)
                elif wanted.startswith("raises "):
                    self.check_error(source, names, wanted[len("raises "):])
                else:
                    self.assertEqual(repr(eval(source, names)), wanted)

    def check_error(self, source, names, wanted):
        error = eval(wanted, vars(errors).copy())
        with self.assertRaises(errors.WovenError) as caught:
            eval(source, names)
        self.assertIs(caught.exception.__class__, error.__class__)
        self.assertEqual(vars(caught.exception), vars(error))

    def test_boards(self):
        self.check(BOARDS)

    def test_chains(self):
        self.check(CHAINS)

    def test_lots(self):
        self.check(LOTS)

    def test_readings(self):
        self.check(READINGS)


if __name__ == "__main__":
    unittest.main()
