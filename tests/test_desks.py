"""Points 57 and 58: the desk, its deeds, and deeds taken back and done again."""

import unittest
from itertools import product

from plain import five_by_five, larger_boards, plain_is_ring, plain_steps, threads_of, tiny_boards
from plainloads import mixed_numbers, plain_barring

from wovenframes.boards import Board
from wovenframes.desks import Desk
from wovenframes.errors import (
    BadBoard, BadColumn, BadNumber, BadRow, BadSign, BadThread, TooHeavy, WovenError,
)
from wovenframes.readings import shows_verdict, verdict

BOARD = Board((">x<", ".<x"))
TURNED = {".": ".", "<": ">", ">": "<", "x": "x"}


class PlainDesk:
    """A desk that keeps signs and strengths by cell, and loads by row and by column."""

    def __init__(self, board):
        self.signs = {(row, column): board.cells[row][column]
                      for row, column in product(range(board.rows), range(board.columns))}
        self.strengths = {cell: 1 for cell in self.signs}
        self.above, self.across = [0] * board.rows, [0] * board.columns

    def put(self, row, column, sign):
        self.signs[row, column] = sign

    def strengthen(self, row, column, number):
        self.strengths[row, column] = number

    def shift(self, one, other, number):
        for thread, more in ((one, number), (other, -number)):
            side = self.above if thread < len(self.above) else self.across
            side[thread if thread < len(self.above) else thread - len(self.above)] += more

    def flip(self):
        self.signs = {(column, row): TURNED[sign] for (row, column), sign in self.signs.items()}
        self.strengths = {(column, row): number for (row, column), number in self.strengths.items()}
        self.above, self.across = self.across, self.above

    def turn(self):
        self.signs = {cell: TURNED[sign] for cell, sign in self.signs.items()}
        self.above, self.across = [-load for load in self.above], [-load for load in self.across]

    def stands(self):
        rows, columns = len(self.above), len(self.across)
        board = Board(tuple("".join(self.signs[row, column] for column in range(columns)) for row in range(rows)))
        strengths = tuple(
            self.strengths[(one, other - rows) if one < rows else (other, one - rows)] for one, other in plain_steps(board)
        )
        return board, (*self.above, *self.across), strengths


def stands(desk):
    return desk.own_board, desk.own_load, desk.own_strengths


def some_deeds(board, seed, many):
    """Deeds that look thrown, in bounds, whichever way the board lies then; none makes a load too heavy."""
    rows, columns, load = board.rows, board.columns, [0] * (board.rows + board.columns)
    deeds = []
    while len(deeds) < many:
        kind, first, second, third = mixed_numbers(seed * 40 + len(deeds), 4, 0, 10 ** 4)
        kind %= 8
        if kind < 2:
            deeds.append(("put", first % rows, second % columns, ".<>x"[third % 4]))
        elif kind < 4:
            deeds.append(("strengthen", first % rows, second % columns, third % 10))
        elif kind < 6:
            one, other, number = first % len(load), second % len(load), third % 9 - 4
            heavier = list(load)
            heavier[one] += number
            heavier[other] -= number
            number = number if max(map(abs, heavier)) <= 20 else 0
            load[one] += number
            load[other] -= number
            deeds.append(("shift", one, other, number))
        elif kind == 6:
            deeds.append(("flip",))
            load = load[rows:] + load[:rows]
            rows, columns = columns, rows
        else:
            deeds.append(("turn",))
            load = [-number for number in load]
    return deeds


def tried():
    for seed, board in enumerate([*list(tiny_boards())[::7], *list(larger_boards())[::3], *five_by_five()]):
        yield board, some_deeds(board, seed, 5 + seed % 20)


def do(desk, deed):
    return getattr(desk, deed[0])(*deed[1:])


class Deeds(unittest.TestCase):
    def test_a_new_desk(self):
        for board in [*list(tiny_boards())[::5], *larger_boards()]:
            desk = Desk(board)
            self.assertEqual(stands(desk), (board, (0,) * len(board), (1,) * len(plain_steps(board))))
            self.assertEqual((len(desk), desk.undo(), desk.redo(), len(desk)), (0, False, False, 0))
            self.assertIs(desk.does_carry(), True)

    def test_deeds_one_behind_the_other(self):
        for board, deeds in tried():
            desk, plain = Desk(board), PlainDesk(board)
            for done, deed in enumerate(deeds, start=1):
                self.assertIsNone(do(desk, deed))
                do(plain, deed)
                self.assertEqual(stands(desk), plain.stands())
                self.assertEqual(len(desk), done)
                self.assertEqual([part.__class__ for part in stands(desk)], [Board, tuple, tuple])
                self.assertIs(desk.does_carry(), plain_barring(*plain.stands()[:2]) is None)

    def test_the_verdict(self):
        seen = {"ring": 0, "lot": 0}
        for board, deeds in list(tried())[::3]:
            desk = Desk(board)
            for deed in deeds:
                do(desk, deed)
                word, shown = told = desk.verdict()
                self.assertEqual(told, verdict(desk.own_board))
                self.assertIs(shows_verdict(desk.own_board, told), True)
                if word == "ring":
                    self.assertTrue(plain_is_ring(desk.own_board, shown))
                seen[word] += 1
        self.assertGreater(min(seen.values()), 20)

    def test_a_step_keeps_its_load_and_strength_when_flipped(self):
        board = Board((">x", ".<", "<."))
        desk = Desk(board)
        for at, (row, column) in enumerate(product(range(3), range(2))):
            desk.strengthen(row, column, at + 2)
        desk.shift(0, 4, 7)
        desk.shift(2, 1, 3)
        there = {thread: (thread + 2) % 5 for thread in threads_of(board)}
        pulled = dict(zip(((there[one], there[other]) for one, other in plain_steps(board)), desk.own_strengths))
        loads = desk.own_load
        desk.flip()
        self.assertEqual(desk.own_strengths, tuple(pulled[step] for step in plain_steps(desk.own_board)))
        self.assertEqual(desk.own_load, tuple(loads[(thread + 3) % 5] for thread in range(5)))

    def test_a_knot_has_one_strength_both_ways(self):
        desk = Desk(Board((">x",)))
        self.assertEqual(desk.own_strengths, (1, 1, 1))
        desk.strengthen(0, 1, 9)
        self.assertEqual(desk.own_strengths, (1, 9, 9))
        desk.put(0, 1, "<")
        self.assertEqual(desk.own_strengths, (1, 9))

    def test_an_empty_cell_has_a_strength_too(self):
        desk = Desk(Board(("..",)))
        desk.strengthen(0, 1, 0)
        self.assertEqual(desk.own_strengths, ())
        desk.put(0, 0, ">")
        desk.put(0, 1, "x")
        self.assertEqual(desk.own_strengths, (1, 0, 0))
        desk.put(0, 1, ".")
        desk.put(0, 1, "<")
        self.assertEqual(desk.own_strengths, (1, 0))

    def test_shifts_at_the_bounds(self):
        for number in (20, -20):
            desk = Desk(BOARD)
            desk.shift(0, 4, number)
            self.assertEqual(desk.own_load, (number, 0, 0, 0, -number))
            for one, other, more in ((0, 1, number // 20), (1, 4, number // 20), (0, 4, number // 20), (1, 0, -number)):
                with self.assertRaises(TooHeavy):
                    desk.shift(one, other, more)
            # What stays within the bounds is let, whichever way it goes.
            desk.shift(0, 4, -number)
            desk.shift(4, 0, number)
            self.assertEqual(desk.own_load, (-number, 0, 0, 0, number))
            desk.shift(0, 4, number)
            self.assertEqual((desk.own_load, len(desk)), ((0,) * 5, 4))

    def test_a_shift_from_a_thread_to_itself(self):
        desk = Desk(BOARD)
        desk.shift(0, 1, 20)
        for number in (20, -20, 0, 1):
            self.assertIsNone(desk.shift(0, 0, number))
            self.assertIsNone(desk.shift(3, 3, number))
            self.assertEqual(desk.own_load, (20, -20, 0, 0, 0))
        self.assertEqual(len(desk), 9)
        self.assertEqual((desk.undo(), len(desk), desk.own_load), (True, 8, (20, -20, 0, 0, 0)))

    def test_deeds_that_leave_all_as_it_was_are_deeds(self):
        desk = Desk(BOARD)
        desk.put(0, 0, ">")
        desk.strengthen(0, 0, 1)
        desk.shift(0, 1, 0)
        self.assertEqual((len(desk), stands(desk)), (3, stands(Desk(BOARD))))
        self.assertEqual([desk.undo() for _ in range(4)], [True, True, True, False])
        self.assertEqual([desk.redo() for _ in range(4)], [True, True, True, False])


class Back(unittest.TestCase):
    def test_all_taken_back_and_done_again(self):
        for board, deeds in tried():
            desk = Desk(board)
            seen = [stands(desk)]
            for deed in deeds:
                do(desk, deed)
                seen.append(stands(desk))
            for done in range(len(deeds) - 1, -1, -1):
                self.assertIs(desk.undo(), True)
                self.assertEqual((stands(desk), len(desk)), (seen[done], done))
            self.assertIs(desk.undo(), False)
            self.assertEqual((stands(desk), len(desk)), (seen[0], 0))
            for done in range(1, len(deeds) + 1):
                self.assertIs(desk.redo(), True)
                self.assertEqual((stands(desk), len(desk)), (seen[done], done))
            self.assertIs(desk.redo(), False)
            self.assertEqual((stands(desk), len(desk)), (seen[-1], len(deeds)))

    def test_back_and_forth_and_on(self):
        for seed, (board, deeds) in enumerate(tried()):
            desk = Desk(board)
            behind, ahead, now = [], [], stands(desk)
            turns = mixed_numbers(seed, len(deeds), 0, 2)
            for deed, kind in zip(deeds, turns):
                for _ in range(kind):
                    self.assertIs(desk.undo(), bool(behind))
                    if behind:
                        ahead.append(now)
                        now = behind.pop()
                if kind == 2:
                    self.assertIs(desk.redo(), bool(ahead))
                    if ahead:
                        behind.append(now)
                        now = ahead.pop()
                self.assertEqual((stands(desk), len(desk)), (now, len(behind)))
                try:
                    do(desk, deed)
                except WovenError:
                    # A deed that was thrown for a board that lies otherwise may be refused.
                    self.assertEqual((stands(desk), len(desk)), (now, len(behind)))
                else:
                    behind.append(now)
                    ahead, now = [], stands(desk)
            self.assertIs(desk.redo(), bool(ahead))

    def test_a_deed_ends_what_could_be_done_again(self):
        for deed in (("put", 0, 0, "x"), ("strengthen", 0, 0, 1), ("shift", 0, 0, 0), ("flip",), ("turn",)):
            desk = Desk(BOARD)
            desk.turn()
            desk.flip()
            self.assertEqual((desk.undo(), desk.undo()), (True, True))
            do(desk, deed)
            self.assertEqual((desk.redo(), len(desk)), (False, 1))

    def test_a_refused_deed_does_not(self):
        desk = Desk(BOARD)
        desk.shift(0, 1, 20)
        desk.turn()
        desk.undo()
        before = stands(desk)
        for deed in (("put", 2, 0, "x"), ("put", 0, 3, "x"), ("put", 0, 0, "y"), ("strengthen", 0, 0, 10), ("shift", 0, 5, 0),
                     ("shift", 0, 2, 1), ("shift", 0, 1, 21), ("strengthen", None, 0, 0)):
            with self.assertRaises(WovenError):
                do(desk, deed)
            self.assertEqual((stands(desk), len(desk)), (before, 1))
        self.assertIs(desk.redo(), True)
        self.assertEqual((desk.own_load, len(desk)), ((-20, 20, 0, 0, 0), 2))

    def test_questions_change_nothing(self):
        desk = Desk(BOARD)
        desk.shift(0, 1, 3)
        desk.flip()
        desk.undo()
        before = stands(desk)
        for _ in range(3):
            self.assertEqual((desk.verdict(), desk.does_carry()), (verdict(BOARD), plain_barring(*before[:2]) is None))
            self.assertEqual((stands(desk), len(desk)), (before, 1))
        self.assertIs(desk.redo(), True)

    def test_many_deeds(self):
        desk = Desk(BOARD)
        for _ in range(500):
            desk.turn()
            desk.flip()
        self.assertEqual((len(desk), stands(desk)), (1000, stands(Desk(BOARD))))
        self.assertTrue(all(desk.undo() for _ in range(1000)))
        self.assertEqual((len(desk), desk.undo()), (0, False))


class Copies(unittest.TestCase):
    def test_a_copy_stands_as_the_desk(self):
        for seed, (board, deeds) in enumerate(tried()):
            desk = Desk(board)
            for deed in deeds:
                do(desk, deed)
            for _ in range(seed % 5):
                desk.undo()
            other = desk.copy()
            self.assertIsInstance(other, Desk)
            self.assertEqual((stands(other), len(other)), (stands(desk), len(desk)))
            again = other.copy()
            for call in ("undo", "redo"):
                while getattr(desk, call)():
                    self.assertIs(getattr(other, call)(), True)
                    self.assertEqual((stands(other), len(other)), (stands(desk), len(desk)))
                self.assertIs(getattr(other, call)(), False)
            self.assertEqual(len(again), max(0, len(deeds) - seed % 5))

    def test_what_is_done_to_one_is_not_done_to_the_other(self):
        desk = Desk(BOARD)
        desk.shift(0, 1, 3)
        desk.turn()
        desk.undo()
        before = stands(desk)
        other = desk.copy()
        for deed in (("put", 0, 0, "."), ("strengthen", 0, 1, 7), ("shift", 3, 4, 5), ("flip",), ("turn",)):
            do(other, deed)
            self.assertEqual((stands(desk), len(desk)), (before, 1))
        self.assertIs(other.redo(), False)
        self.assertIs(desk.redo(), True)
        third = desk.copy()
        while desk.undo():
            pass
        desk.put(1, 1, "x")
        self.assertEqual((len(third), len(other), len(desk)), (2, 6, 1))
        self.assertEqual(third.own_load, (-3, 3, 0, 0, 0))
        self.assertIs(third.undo(), True)
        self.assertEqual(stands(third), before)

    def test_desks_of_one_board(self):
        one, other = Desk(BOARD), Desk(BOARD)
        one.put(0, 0, ".")
        self.assertEqual((other.own_board, len(other)), (BOARD, 0))
        self.assertEqual(BOARD.cells, (">x<", ".<x"))
        self.assertFalse(one == BOARD or one == BOARD.cells or one == 1 or one is None)


class Wrong(unittest.TestCase):
    NONE = (None, "", "0", "x", [], [0], {}, {0: 0}, (), (0,), BOARD, True, False, 10 ** 30, -(10 ** 30))

    def refuse(self, error, name, *arguments):
        desk = Desk(BOARD)
        with self.subTest(name=name, arguments=arguments), self.assertRaises(WovenError) as caught:
            getattr(desk, name)(*arguments)
        self.assertIs(caught.exception.__class__, error)
        self.assertEqual((stands(desk), len(desk), desk.undo(), desk.redo()), (stands(Desk(BOARD)), 0, False, False))

    def test_bad_boards(self):
        for board in (None, True, 0, "", ">", (">",), [">"], {}, [BOARD], (BOARD,), Board, Desk(BOARD)):
            with self.subTest(board=board), self.assertRaises(BadBoard):
                Desk(board)

    def test_cells(self):
        for row in (*self.NONE, -1, 2, 3):
            self.refuse(BadRow, "put", row, None, None)
            self.refuse(BadRow, "put", row, 0, "x")
            self.refuse(BadRow, "strengthen", row, None, None)
            self.refuse(BadRow, "strengthen", row, 0, 1)
        for column in (*self.NONE, -1, 3, 4):
            self.refuse(BadColumn, "put", 0, column, None)
            self.refuse(BadColumn, "put", 1, column, "x")
            self.refuse(BadColumn, "strengthen", 0, column, None)
            self.refuse(BadColumn, "strengthen", 1, column, 1)
        for sign in (None, "", "xx", "X", " ", 0, 1, True, [], ["x"], ("x",), {}, {"x": 1}, BOARD, b"x"):
            self.refuse(BadSign, "put", 0, 0, sign)

    def test_numbers(self):
        for number in (*self.NONE, -1, 10, 11):
            self.refuse(BadNumber, "strengthen", 0, 0, number)
        for number in (*self.NONE, -21, 21):
            self.refuse(BadNumber, "shift", 0, 1, number)
            self.refuse(BadNumber, "shift", 2, 2, number)
        for number in range(10):
            self.assertIsNone(Desk(BOARD).strengthen(1, 2, number))
        for number in range(-20, 21):
            self.assertIsNone(Desk(BOARD).shift(4, 0, number))

    def test_threads(self):
        for thread in (*self.NONE, -1, 5, 6):
            self.refuse(BadThread, "shift", thread, 0, 1)
            self.refuse(BadThread, "shift", 0, thread, 1)
            self.refuse(BadThread, "shift", thread, None, None)
            self.refuse(BadThread, "shift", 4, thread, None)

    def test_too_heavy_is_told_last(self):
        desk = Desk(BOARD)
        desk.shift(0, 1, 20)
        for one, other, number, error in ((0, 5, 21, BadThread), (0, 2, 21, BadNumber), (0, 2, 1, TooHeavy), (2, 1, 1, TooHeavy)):
            with self.assertRaises(error):
                desk.shift(one, other, number)
        self.assertEqual((desk.own_load, len(desk)), ((20, -20, 0, 0, 0), 1))

    def test_each_method_is_defined_in_the_class_itself(self):
        for name in ("put", "strengthen", "shift", "flip", "turn", "undo", "redo", "does_carry", "verdict", "copy", "own_board",
                     "own_load", "own_strengths", "__len__", "__init__"):
            self.assertIn(name, vars(Desk))


if __name__ == "__main__":
    unittest.main()
