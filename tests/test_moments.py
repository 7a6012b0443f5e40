"""Point 45: the moments at which one more deed can be put in among others."""

import unittest
from itertools import product

from plain import mixed_board, tiny_boards
from plainloads import mixed_numbers, with_signs
from plainpictures import plain_holds

from wovenframes.boards import Board
from wovenframes.errors import BadDeed, BadDeeds
from wovenframes.moments import latest, moments

KNOTS = Board(("xx", "xx"))
CUT, FILL = ("cut", 0, 0), ("fill", 0, 0, "x")


def plain_is_firm(board, deeds):
    """Whether all deeds can be done in turn, the board holding ahead of and behind each."""
    cells = board.cells
    holding = [plain_holds(Board(cells))]
    for word, row, column, *sign in deeds:
        if (cells[row][column] == ".") != (word == "fill"):
            return False
        cells = with_signs(Board(cells), [(row, column)], sign[0] if sign else ".")
        holding.append(plain_holds(Board(cells)))
    return all(holding)


def some_deeds(board, seed, many):
    """Fills and cuts that look thrown; most can be done in turn."""
    cells, deeds = board.cells, []
    for at in range(many):
        row, column, sign, odd = mixed_numbers(seed * 20 + at, 4, 0, 10 ** 4)
        row, column = row % board.rows, column % board.columns
        if (cells[row][column] == ".") != (odd % 8 == 0):
            deeds.append(("fill", row, column, "<>xx"[sign % 4]))
            cells = with_signs(Board(cells), [(row, column)], "<>xx"[sign % 4])
        else:
            deeds.append(("cut", row, column))
            cells = with_signs(Board(cells), [(row, column)], ".")
    return tuple(deeds)


def tried():
    for seed, board in enumerate(list(tiny_boards())[::3]):
        yield board, some_deeds(board, seed, seed % 4), some_deeds(board, seed + 5, 1)[0]
    for seed in range(400):
        board = mixed_board(2 + seed % 4, 2 + seed // 4 % 4, seed, ("x", "xxx.", "xxx<>", "xx.x")[seed % 4])
        yield board, some_deeds(board, seed, seed % 7), some_deeds(board, seed + 7, 1)[0]


class Moments(unittest.TestCase):
    def test_against_each_number_tried(self):
        seen = {}
        for board, deeds, deed in tried():
            wanted = [
                k for k in range(len(deeds) + 1) if plain_is_firm(board, deeds[:k] + (deed,) + deeds[k:])
            ]
            self.assertEqual(moments(board, deeds, deed), wanted)
            self.assertEqual(latest(board, deeds, deed), max(wanted, default=None))
            seen[len(wanted)] = seen.get(len(wanted), 0) + 1
        self.assertTrue(all(seen.get(many, 0) > 1 for many in range(6)), seen)

    def test_ahead_of_all_and_behind_all(self):
        board = Board(("xxx", "xxx"))
        self.assertEqual(moments(board, (), CUT), [0])
        self.assertEqual(moments(board, (("cut", 1, 2),) * 1, CUT), [0, 1])
        six = (("cut", 1, 2), ("fill", 1, 2, "<"), ("cut", 1, 2), ("fill", 1, 2, ">"), ("cut", 1, 2), ("fill", 1, 2, "x"))
        self.assertEqual(moments(board, six, CUT), [0, 1, 2, 3, 4, 5, 6])
        self.assertEqual(latest(board, six, CUT), 6)

    def test_the_board_must_hold_ahead_of_each(self):
        self.assertEqual(moments(Board(("x.",)), (), ("fill", 0, 1, "x")), [])
        self.assertIsNone(latest(Board(("x.",)), (), ("fill", 0, 1, "x")))
        self.assertEqual(moments(KNOTS, (("cut", 0, 1),), CUT), [])
        self.assertEqual(moments(KNOTS, (("cut", 0, 1), ("fill", 0, 1, "x")), CUT), [2])
        self.assertEqual(moments(Board(("xx", "x.")), (), ("fill", 1, 1, "x")), [0])

    def test_a_deed_that_cannot_be_done(self):
        self.assertEqual(moments(KNOTS, (), FILL), [])
        self.assertEqual(moments(KNOTS, (CUT,), FILL), [1])
        self.assertEqual(moments(KNOTS, (FILL,), CUT), [0])
        self.assertEqual(moments(KNOTS, (FILL, FILL), CUT), [])
        self.assertEqual(moments(KNOTS, (CUT, CUT), FILL), [1])
        self.assertEqual(latest(KNOTS, (CUT, FILL), CUT), 2)


class WrongDeeds(unittest.TestCase):
    NONE = (
        None, True, 0, "", "cut", [], ["cut", 0, 0], {}, (), ("cut",), ("cut", 0), ("cut", 0, 0, 0), ("cut", 0, 2), ("cut", 2, 0),
        ("cut", -1, 0), ("cut", True, 0), ("cut", 0, None), ("fill", 0, 0), ("fill", 0, 0, "."), ("fill", 0, 0, "xx"),
        ("fill", 0, 0, None), ("fill", 2, 0, "x"), ("fill", 0, 0, ["x"]), ("fill", 0, 0, "x", 0), ("stand", 0), ("leave",),
        ("stand", 0, 0), ("put", 0, 0, "x"), (None,), KNOTS, (KNOTS,), ("cut", 10 ** 30, 0), (("cut", 0, 0),),
    )

    def check(self, deeds, index, deed=CUT):
        for call in (moments, latest):
            with self.subTest(deeds=deeds), self.assertRaises(BadDeeds) as caught:
                call(KNOTS, deeds, deed)
            self.assertEqual(caught.exception.index, index)

    def test_no_tuple_of_at_most_six_things(self):
        for deeds in (None, True, 0, "", "ab", [], [CUT], {}, {0: CUT}, KNOTS, (CUT,) * 7, (None,) * 7, (CUT, FILL) * 4):
            self.check(deeds, None)
            self.check(deeds, None, None)
        self.assertEqual(moments(KNOTS, (CUT, FILL) * 3, CUT), [6])

    def test_the_first_thing_that_is_no_fill_or_cut(self):
        for thing in self.NONE:
            self.check((thing,), 0)
            self.check((CUT, FILL, thing, thing), 2)
            self.check((CUT,) * 5 + (thing,), 5)
            self.check((thing, CUT), 0, None)

    def test_bad_deed(self):
        for deed in self.NONE:
            for call in (moments, latest):
                for deeds in ((), (CUT, FILL)):
                    with self.subTest(deed=deed), self.assertRaises(BadDeed):
                        call(KNOTS, deeds, deed)

    def test_each_fill_and_cut_of_the_board(self):
        for row, column in product(range(2), repeat=2):
            self.assertEqual(moments(KNOTS, (), ("cut", row, column)), [0])
            for sign in "<>x":
                self.assertEqual(moments(KNOTS, (("cut", row, column),), ("fill", row, column, sign)), [1])


if __name__ == "__main__":
    unittest.main()
