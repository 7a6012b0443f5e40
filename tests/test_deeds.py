"""Points 59 and 60: deeds on a board, and the fewest that make one board into another."""

import unittest
from itertools import product

from plain import all_boards, larger_boards, mixed_board
from plainloads import mixed_numbers

from wovenframes.boards import Board, flipped, turned, with_cell
from wovenframes.deeds import deeds_to, fewest_deeds, replayed
from wovenframes.errors import BadBoard, BadDeeds

BOARD = Board((">x<", ".<x"))
TURNED = {".": ".", "<": ">", ">": "<", "x": "x"}


def plain_behind(cells, deed):
    """The cells behind a deed."""
    if deed == ("turn",):
        return tuple("".join(TURNED[sign] for sign in signs) for signs in cells)
    if deed == ("flip",):
        return tuple("".join(TURNED[signs[column]] for signs in cells) for column in range(len(cells[0])))
    _, row, column, sign = deed
    lines = [list(signs) for signs in cells]
    lines[row][column] = sign
    return tuple("".join(line) for line in lines)


def all_deeds(cells):
    puts = [("put", row, column, sign) for row, column, sign in product(range(len(cells)), range(len(cells[0])), ".<>x")]
    return [("flip",), ("turn",), *puts]


def away_from(cells):
    """For all cells that deeds make of some cells how few deeds do, by going on deed by deed."""
    away, edge = {cells: 0}, [cells]
    for one in edge:
        for deed in all_deeds(one):
            other = plain_behind(one, deed)
            if other not in away:
                away[other] = away[one] + 1
                edge.append(other)
    return away


def some_deeds(board, seed, many):
    cells, deeds = board.cells, []
    for at in range(many):
        able = all_deeds(cells)
        deed = able[mixed_numbers(seed * 40 + at, 1, 0, 10 ** 4)[0] % (len(able) if at % 3 else 2)]
        deeds.append(deed)
        cells = plain_behind(cells, deed)
    return deeds, cells


class Replayed(unittest.TestCase):
    def test_deed_by_deed(self):
        for seed, board in enumerate(larger_boards()):
            deeds, cells = some_deeds(board, seed, seed % 31)
            self.assertEqual(replayed(board, deeds).cells, cells)
            self.assertEqual(replayed(board, tuple(deeds)).cells, cells)

    def test_single_deeds(self):
        for board in larger_boards():
            self.assertEqual(replayed(board, [("flip",)]), flipped(board))
            self.assertEqual(replayed(board, [("turn",)]), turned(board))
            self.assertEqual(replayed(board, [("put", 0, board.columns - 1, "x")]), with_cell(board, 0, board.columns - 1, "x"))
            for none in ([], (), [("flip",)] * 2, [("turn",)] * 30):
                self.assertEqual(replayed(board, none), board)
        self.assertEqual(BOARD.cells, (">x<", ".<x"))

    def check(self, deeds, index):
        kept = list(deeds) if isinstance(deeds, list) else deeds
        with self.subTest(deeds=deeds), self.assertRaises(BadDeeds) as caught:
            replayed(BOARD, deeds)
        self.assertEqual(caught.exception.index, index)
        self.assertEqual(deeds, kept)

    def test_no_list_or_tuple_of_at_most_thirty_things(self):
        for deeds in (None, True, 0, 1, "", "flip", {}, {0: ("flip",)}, BOARD, [("turn",)] * 31, (None,) * 31):
            self.check(deeds, None)
        self.assertEqual(replayed(BOARD, [("turn",), ("turn",)] * 15), BOARD)
        self.check([("turn",)] * 29 + [None], 29)

    def test_the_first_thing_that_is_no_deed(self):
        for thing in (None, True, 0, "", "flip", [], ["flip"], {}, (), ("flip", 0), ("turn", None), ("turn", ()), ("Flip",), ("put",),
                      ("put", 0, 0), ("put", 0, 0, "x", 0), ("put", 2, 0, "x"), ("put", 0, 3, "x"), ("put", -1, 0, "x"),
                      ("put", 0, -1, "x"), ("put", True, 0, "x"), ("put", 0, False, "x"), ("put", None, 0, "x"), ("put", "0", 0, "x"),
                      ("put", (0,), 0, "x"), ("put", [0], 0, "x"), ("put", 0, 0, "y"), ("put", 0, 0, ""), ("put", 0, 0, "xx"),
                      ("put", 0, 0, None), ("put", 0, 0, ["x"]), ("put", 0, 0, ("x",)), ("put", 0, 0, {}), ("put", 0, 0, 1),
                      ["put", 0, 0, "x"], ("fill", 0, 0, "x"), ("cut", 0, 0), ("leave",), (("flip",),), (["flip"],), (None,), BOARD,
                      (BOARD,), ("put", 10 ** 30, 0, "x"), ("put", (0, 0), "x")):
            self.check([thing], 0)
            self.check((thing, None), 0)
            self.check([("turn",), ("put", 1, 2, "."), thing, thing], 2)

    def test_on_the_board_as_it_is_then(self):
        self.check([("put", 1, 2, "x"), ("flip",), ("put", 1, 2, "x")], 2)
        self.check([("flip",), ("flip",), ("put", 2, 1, "x")], 2)
        self.check([("put", 2, 1, "x")], 0)
        self.assertEqual(replayed(BOARD, [("flip",), ("put", 2, 1, "."), ("flip",)]).cells, (">x<", ".<."))

    def test_bad_boards(self):
        for board in (None, 0, "", (">",), [], {}):
            with self.assertRaises(BadBoard):
                replayed(board, None)


class Fewest(unittest.TestCase):
    def check(self, board, other, fewest):
        self.assertEqual(fewest_deeds(board, other), fewest)
        deeds = deeds_to(board, other)
        if fewest is None:
            self.assertIsNone(deeds)
            return
        self.assertIs(deeds.__class__, list)
        self.assertEqual(len(deeds), fewest)
        cells = board.cells
        for deed in deeds:
            self.assertIn(deed, all_deeds(cells))
            cells = plain_behind(cells, deed)
        self.assertEqual(cells, other.cells)
        self.assertEqual(replayed(board, deeds), other)

    def test_all_boards_of_one_and_two_cells(self):
        boards = [board for size in ((1, 1), (1, 2), (2, 1)) for board in all_boards(*size)]
        for board in boards:
            away = away_from(board.cells)
            for other in boards:
                self.check(board, other, away.get(other.cells))

    def test_boards_of_four_cells(self):
        boards = list(all_boards(2, 2))
        for board in boards[::29]:
            away = away_from(board.cells)
            for other in boards[::3]:
                self.check(board, other, away[other.cells])

    def test_boards_of_three_cells(self):
        for board in list(all_boards(1, 3))[::5]:
            away = away_from(board.cells)
            for other in [*list(all_boards(3, 1))[::2], *list(all_boards(1, 3))[1::2]]:
                self.check(board, other, away[other.cells])
            self.check(board, Board(("..", "..")), None)

    def test_larger_boards(self):
        for seed in range(40):
            board = mixed_board(1 + seed % 5, 1 + seed // 2 % 5, seed)
            others = [flipped(board), turned(board), turned(flipped(board)), mixed_board(board.rows, board.columns, seed + 9),
                      mixed_board(board.columns, board.rows, seed + 9)]
            for other in others:
                fewest = []
                for flip, turn in product(range(2), repeat=2):
                    cells = board.cells
                    for deed in [("flip",)] * flip + [("turn",)] * turn:
                        cells = plain_behind(cells, deed)
                    if (len(cells), len(cells[0])) == (other.rows, other.columns):
                        unlike = sum(a != b for a, b in zip("".join(cells), "".join(other.cells)))
                        fewest.append(flip + turn + unlike)
                self.check(board, other, min(fewest))
            self.check(board, board, 0)

    def test_a_turn_is_cheaper_than_many_puts(self):
        board = Board((">" * 5,) * 5)
        self.check(board, Board(("<" * 5,) * 5), 1)
        self.check(board, Board(("x" * 5,) * 5), 25)
        # Flipped it is ("<x", ".<", "><"), of which three signs are other ones.
        self.check(Board((">.<", "x>>")), Board(("<<", ".>", ">>")), 4)

    def test_other_sizes(self):
        for board, other in ((BOARD, Board((">x", ".<"))), (Board((">",)), Board((">>",))), (BOARD, Board((">x<.", ".<x.")))):
            self.check(board, other, None)
            self.check(other, board, None)

    def test_each_list_is_new(self):
        other = Board((">..", "..."))
        first = deeds_to(BOARD, other)
        kept = list(first)
        first.append("changed")
        self.assertEqual(deeds_to(BOARD, other), kept)
        again = deeds_to(BOARD, BOARD)
        again.append("changed")
        self.assertEqual(deeds_to(BOARD, BOARD), [])

    def test_bad_boards(self):
        for value in (None, True, 0, "", ">", (">x<", ".<x"), [], {}, [BOARD], (BOARD,)):
            for call in (deeds_to, fewest_deeds):
                for one, other in ((value, BOARD), (BOARD, value), (value, None)):
                    with self.assertRaises(BadBoard):
                        call(one, other)


if __name__ == "__main__":
    unittest.main()
