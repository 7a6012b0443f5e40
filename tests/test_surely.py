"""Point 53: what surely holds and is carried, whichever break is left, and what may be."""

import unittest

from plainbreaks import boards_with_breaks, plain_broken, plain_left_behind, some_log
from plainloads import mixed_load, noughts, plain_barring
from plainpictures import plain_holds

from wovenframes.boards import Board
from wovenframes.errors import BadLoad, BadLog, BadMost, NoBreak
from wovenframes.surely import may_carry, may_hold, surely_carried, surely_holds

BOARD = Board((">x", ".<"))
KNOTS = Board(("xx", "xx"))
LOG = (("trial", 2, "+-+-"),)
NONE_FITS = (("trial", 1, "?-??"),)


class Surely(unittest.TestCase):
    def test_against_each_break_that_is_left(self):
        held, carried = {}, {}
        for seed, board in list(enumerate(boards_with_breaks()))[::2]:
            for log in ((), some_log(board, seed + 1), some_log(board, seed + 404)):
                for most in range(3):
                    left = [plain_broken(board, lost) for lost in plain_left_behind(board, log, most)]
                    if not left or len(left) > 120:
                        continue
                    hold = [plain_holds(some) for some in left]
                    self.assertIs(surely_holds(board, log, most), all(hold))
                    self.assertIs(may_hold(board, log, most), any(hold))
                    held[all(hold), any(hold)] = held.get((all(hold), any(hold)), 0) + 1
                    load = (mixed_load(board, seed, 2), noughts(board), mixed_load(board, seed, 20))[seed % 3]
                    carry = [plain_barring(some, load) is None for some in left]
                    self.assertIs(surely_carried(board, log, most, load), all(carry))
                    self.assertIs(may_carry(board, log, most, load), any(carry))
                    carried[all(carry), any(carry)] = carried.get((all(carry), any(carry)), 0) + 1
        for seen in (held, carried):
            self.assertEqual(len(seen), 3)
            self.assertGreater(min(seen.values()), 10, seen)

    def test_no_cell_broken(self):
        for board in (BOARD, KNOTS, Board((".",)), Board(("x",))):
            for call in (surely_holds, may_hold):
                self.assertIs(call(board, (), 0), plain_holds(board))
            for call in (surely_carried, may_carry):
                self.assertIs(call(board, (), 0, noughts(board)), True)

    def test_a_mend_makes_sure(self):
        self.assertIs(surely_holds(KNOTS, (), 2), False)
        mends = (("mend", 0, 0), ("mend", 0, 1), ("mend", 1, 0))
        self.assertIs(surely_holds(KNOTS, mends[:2], 2), False)
        self.assertIs(surely_holds(KNOTS, mends, 2), True)
        self.assertIs(surely_carried(BOARD, (), 1, (1, 0, -1, 0)), False)
        self.assertIs(surely_carried(BOARD, (("mend", 0, 0),), 1, (1, 0, -1, 0)), True)
        self.assertIs(may_carry(BOARD, LOG, 2, (1, -1, 0, 0)), False)
        self.assertIs(surely_carried(BOARD, LOG + (("mend", 0, 1),), 1, (1, -1, 0, 0)), True)

    def test_great_loads(self):
        for number in (20, -20):
            load = (number, 0, 0, -number)
            self.assertIs(may_carry(KNOTS, (), 2, load), True)
            self.assertIs(surely_carried(KNOTS, (), 1, load), True)
            self.assertIs(surely_carried(KNOTS, (), 2, load), False)


class Wrong(unittest.TestCase):
    def calls(self, *arguments):
        for call in (surely_holds, may_hold):
            yield call, arguments[:2]
        for call in (surely_carried, may_carry):
            yield call, arguments

    def test_no_break_fits(self):
        load = (1, -1, 0, 0)
        for most in range(3):
            for call, rest in self.calls(NONE_FITS, most, load):
                with self.assertRaises(NoBreak):
                    call(BOARD, *rest)
        for call, rest in self.calls(LOG, 0, load):
            with self.assertRaises(NoBreak):
                call(BOARD, *rest)
        for call, rest in self.calls(LOG, 1, load):
            self.assertIs(call(BOARD, *rest), False)

    def test_no_break_is_told_last(self):
        for call, rest in self.calls(NONE_FITS, 3, None):
            with self.assertRaises(BadMost):
                call(BOARD, *rest)
        for call in (surely_carried, may_carry):
            for load in (None, 0, "", [], (1, -1, 0), (1, 0, 0, 0), (21, -21, 0, 0), [0] * 4, (True, -1, 0, 0), {}, BOARD):
                for log in (NONE_FITS, LOG):
                    with self.subTest(load=load), self.assertRaises(BadLoad):
                        call(BOARD, log, 1, load)
        for call, rest in self.calls(NONE_FITS + (None,), None, None):
            with self.assertRaises(BadLog) as caught:
                call(BOARD, *rest)
            self.assertEqual(caught.exception.index, 1)

    def test_bad_most(self):
        for most in (None, True, False, -1, 3, 10 ** 30, "1", (1,), [], {}, BOARD):
            for call, rest in self.calls(LOG, most, None):
                with self.subTest(most=most), self.assertRaises(BadMost):
                    call(BOARD, *rest)


if __name__ == "__main__":
    unittest.main()
