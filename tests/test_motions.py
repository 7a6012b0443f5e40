"""Points 20 to 22: motions to an angle, their number, and the closed lots of which they are made."""

import unittest
from itertools import permutations, product

from plain import (
    all_boards, five_by_five, larger_boards, mixed_board, plain_closed_lots, plain_is_closed, plain_motions,
    plain_parts, threads_of, tiny_boards,
)
from plainloads import mixed_numbers

from wovenframes.boards import Board
from wovenframes.errors import BadAngle, BadHeights, BadMotion, TooHigh, TooMany
from wovenframes.lots import closed_lots
from wovenframes.motions import as_lots, count_motions, motions, of_lots
from wovenframes.readings import is_motion

EXAMPLE = Board((">x", ".<"))
FAR = 10 ** 6


def plain_count(board, angle):
    """How many motions there are to an angle: rows of closed lots, each within the last one, one for each angle."""
    lots = [set(lot) for lot in plain_closed_lots(board)]
    many = [1] * len(lots)
    for _ in range(angle):
        many = [sum(many[at] for at, less in enumerate(lots) if less <= lot) for lot in lots]
    return many[-1]


def some_motion(board, seed, most=9):
    """A motion: each thread gets the greatest number of what it leads to."""
    lots = plain_closed_lots(board)
    picked = mixed_numbers(seed, 4, 0, len(lots) - 1)
    heights = mixed_numbers(seed + 9, 5, -most, most)
    return tuple(
        heights[4] + sum(abs(height) for height, at in zip(heights, picked) if thread in lots[at])
        for thread in threads_of(board)
    )


class Motions(unittest.TestCase):
    def test_against_all_tuples_of_integers(self):
        for board in tiny_boards():
            for angle in range(4 if len(board) < 4 else 3):
                wanted = plain_motions(board, 0, angle)
                self.assertEqual(motions(board, angle), wanted)
                self.assertEqual(count_motions(board, angle), len(wanted))

    def test_larger_boards_to_1_are_the_closed_lots(self):
        for board in [*larger_boards(), *five_by_five()]:
            lots = plain_closed_lots(board)
            wanted = sorted(tuple(int(thread in lot) for thread in threads_of(board)) for lot in lots)
            self.assertEqual(motions(board, 1), wanted)
            self.assertEqual(count_motions(board, 1), len(lots))

    def test_larger_boards(self):
        for board in [*larger_boards(), *five_by_five()]:
            if len(plain_closed_lots(board)) > 200:
                continue
            for angle in (2, 4, 9):
                many = plain_count(board, angle)
                self.assertEqual(count_motions(board, angle), many)
                if many > 3000:
                    with self.assertRaises(TooMany):
                        motions(board, angle)
                else:
                    self.check_listed(board, angle, motions(board, angle), many)

    def check_listed(self, board, angle, told, many):
        self.assertEqual(len(told), many)
        self.assertEqual(told, sorted(set(told)))
        for row in told:
            self.assertTrue(is_motion(board, row))
            self.assertTrue(0 <= min(row) and max(row) <= angle)

    def test_to_0(self):
        for board in larger_boards():
            self.assertEqual(motions(board, 0), [(0,) * len(board)])
            self.assertEqual(count_motions(board, 0), 1)

    def test_numbers_that_can_be_told_at_once(self):
        for angle in (0, 1, 2, 3, 9, 10, 50, 98, 99):
            self.assertEqual(count_motions(Board((".",)), angle), (angle + 1) ** 2)
            self.assertEqual(count_motions(Board((".....",) * 5), angle), (angle + 1) ** 10)
            self.assertEqual(count_motions(Board(("x",)), angle), angle + 1)
            self.assertEqual(count_motions(Board(("xxxxx",) * 5), angle), angle + 1)
            self.assertEqual(count_motions(Board((">",)), angle), (angle + 1) * (angle + 2) // 2)
            wanted = sum((top + 1) ** 5 for top in range(angle + 1))
            self.assertEqual(count_motions(Board((">>>>>",)), angle), wanted)
            self.assertEqual(count_motions(Board(("<<<<<",)), angle), wanted)
            wanted = sum(((top + 1) ** 5 - top ** 5) * (angle + 1 - top) ** 5 for top in range(angle + 1))
            self.assertEqual(count_motions(Board(("<<<<<",) * 5), angle), wanted)

    def test_against_rows_of_closed_lots_to_99(self):
        for board in [*list(tiny_boards())[::9], mixed_board(3, 3, 2), mixed_board(4, 5, 1, "<>x")]:
            for angle in (5, 40, 99):
                self.assertEqual(count_motions(board, angle), plain_count(board, angle))

    def test_five_by_five_to_99(self):
        for board in five_by_five():
            self.assertEqual(count_motions(board, 99), plain_count(board, 99))

    def test_the_differences_of_the_number(self):
        # The number is a polynomial of the angle, of as high a degree as there are parts.
        for board in [*list(tiny_boards())[::7], *five_by_five(), mixed_board(4, 4, 3, ".<>")]:
            row = [count_motions(board, angle) for angle in range(14)]
            for _ in plain_parts(board):
                row = [after - ahead for ahead, after in zip(row, row[1:])]
            self.assertEqual(len(set(row)), 1)
            self.assertGreater(row[0], 0)

    def test_at_3000_and_one_beyond(self):
        for cells in (("..>.>", ">>.>."), (".<", ".<", "<.", "<.", "<.")):
            board = Board(cells)
            self.assertEqual(count_motions(board, 3), 3000)
            self.check_listed(board, 3, motions(board, 3), 3000)
        for cells in ((">.>>", "<.<<", ".>.>", "<>..", "..<<"), ("<.<..", "<..<.", "..>><", "<>.>>", "<..>.")):
            board = Board(cells)
            self.assertEqual(count_motions(board, 3), 3001)
            with self.assertRaises(TooMany) as caught:
                motions(board, 3)
            self.assertEqual(caught.exception.most, 3000)

    def test_too_many(self):
        for angle in range(2, 10):
            with self.assertRaises(TooMany):
                motions(Board((".....",) * 5), angle)
        self.assertEqual(len(motions(Board((".....",) * 5), 1)), 1024)
        self.assertEqual(len(motions(Board(("xxxxx",) * 5), 9)), 10)

    def test_angles(self):
        for angle in (-1, 10, 99, 10 ** 30, True, False, None, "1", "", (1,), [1], {}, {1: 1}):
            with self.assertRaises(BadAngle):
                motions(EXAMPLE, angle)
        for angle in (-1, 100, 10 ** 30, True, False, None, "1", "", (1,), [1], {}, {1: 1}):
            with self.assertRaises(BadAngle):
                count_motions(EXAMPLE, angle)
        self.assertEqual([len(motions(Board(("x",)), 9)), count_motions(Board(("x",)), 99)], [10, 100])

    def test_motions_added_are_motions(self):
        for board in list(tiny_boards())[::11]:
            listed = motions(board, 1)
            for one, other in product(listed, repeat=2):
                self.assertIn(tuple(sum(pair) for pair in zip(one, other)), motions(board, 2))


class AsLots(unittest.TestCase):
    def test_by_the_words(self):
        for board in list(tiny_boards())[::3]:
            for motion in plain_motions(board, -1, 1):
                self.check(board, motion)

    def test_larger_boards(self):
        for board in [*larger_boards(), *five_by_five()]:
            for seed in range(6):
                self.check(board, some_motion(board, seed, (9, 2, 10 ** 5)[seed % 3]))

    def check(self, board, motion):
        told = as_lots(board, motion)
        self.assertEqual([told.__class__, len(told), told[1].__class__], [tuple, 2, tuple])
        numbers = sorted(set(motion))
        wanted = []
        for at in range(1, len(numbers)):
            lot = tuple(thread for thread in threads_of(board) if motion[thread] >= numbers[at])
            wanted.append((lot, numbers[at] - numbers[at - 1]))
        self.assertEqual(told, (numbers[0], tuple(wanted)))
        for lot, height in told[1]:
            self.assertTrue(plain_is_closed(board, lot))
            self.assertGreater(height, 0)
        for (ahead, _), (behind, _) in zip(told[1], told[1][1:]):
            self.assertTrue(set(behind) < set(ahead))
        self.assertEqual(of_lots(board, *told), motion)
        self.assertEqual(of_lots(board, told[0], list(told[1])[::-1]), motion)

    def test_the_greatest_angles(self):
        self.assertEqual(as_lots(Board((">",)), (FAR, -FAR)), (-FAR, (((0,), 2 * FAR),)))
        self.assertEqual(as_lots(Board(("x",)), (-FAR, -FAR)), (-FAR, ()))
        for motion in ((FAR + 1, FAR), (0, -FAR - 1)):
            with self.assertRaises(BadMotion):
                as_lots(Board((">",)), motion)

    def test_values_that_are_no_motions(self):
        for motion in (None, True, 0, "", "00", [], [0, 0], {}, (), (0,), (0, 0, 0), (0, 1), (True, 0), (0, False),
                       (None, 0), ("0", 0), ((0,), 0), ([], 0), ((0, 0),), Board((">",))):
            with self.subTest(motion=motion):
                with self.assertRaises(BadMotion):
                    as_lots(Board((">",)), motion)


class OfLots(unittest.TestCase):
    def test_each_thread_has_the_heights_of_its_lots(self):
        for board in [*list(tiny_boards())[::5], *larger_boards(), *five_by_five()]:
            lots = closed_lots(board)
            for seed in range(3):
                picked = [lots[at] for at in mixed_numbers(seed, 5, 0, len(lots) - 1)]
                pairs = list(zip(picked, mixed_numbers(seed + 3, 5, 0, 10 ** 5)))
                least = mixed_numbers(seed, 1, -FAR, 10 ** 5)[0]
                wanted = tuple(
                    least + sum(height for lot, height in pairs if thread in lot) for thread in threads_of(board)
                )
                self.assertTrue(is_motion(board, wanted))
                for heights in (pairs, tuple(pairs), pairs[::-1]):
                    self.assertEqual(of_lots(board, least, heights), wanted)

    def test_in_any_order_the_same_ones_again(self):
        pairs = [((0, 3), 3), ((0, 1, 3), 3), ((0, 3), 3), ((), 9), ((0, 1, 2, 3), 0)]
        for heights in permutations(pairs):
            self.assertEqual(of_lots(EXAMPLE, -1, heights), (8, 2, -1, 8))
            self.assertEqual(of_lots(EXAMPLE, -1, list(heights)), (8, 2, -1, 8))
        self.assertEqual(of_lots(EXAMPLE, 7, []), (7, 7, 7, 7))
        self.assertEqual(of_lots(EXAMPLE, 7, ()), (7, 7, 7, 7))
        self.assertEqual(of_lots(EXAMPLE, 0, [((0, 3), 1)] * 500), (500, 0, 0, 500))

    def test_at_the_greatest_and_one_beyond(self):
        board = Board((">",))
        self.assertEqual(of_lots(board, -FAR, [((0,), FAR), ((0,), FAR)]), (FAR, -FAR))
        self.assertEqual(of_lots(board, 0, [((0,), FAR)]), (FAR, 0))
        self.assertEqual(of_lots(board, FAR, [((0,), 0), ((), FAR)]), (FAR, FAR))
        self.assertEqual(of_lots(board, FAR - 1, [((0, 1), 1)]), (FAR, FAR))
        for least, heights in (
            (-FAR, [((0,), FAR), ((0,), FAR), ((0,), 1)]), (1, [((0,), FAR)]), (FAR, [((0,), 1)]),
            (FAR, (((0, 1), 1),)), (FAR - 1, [((0,), 1), ((0, 1), 1)]),
        ):
            with self.assertRaises(TooHigh):
                of_lots(board, least, heights)

    def test_the_least_one(self):
        for least in (FAR + 1, -FAR - 1, 10 ** 30, True, False, None, "0", "", (0,), [0], {}, {0: 0}):
            with self.assertRaises(BadAngle):
                of_lots(EXAMPLE, least, [])
            with self.assertRaises(BadAngle):
                of_lots(EXAMPLE, least, None)
        self.assertEqual(of_lots(EXAMPLE, -FAR, []), (-FAR,) * 4)
        self.assertEqual(of_lots(EXAMPLE, FAR, []), (FAR,) * 4)

    def test_heights_that_are_no_list_or_tuple(self):
        for heights in (None, True, False, 0, 5, "", "ab", {}, {(0, 3): 1}, {0: ((0, 3), 1)}, EXAMPLE):
            with self.assertRaises(BadHeights) as caught:
                of_lots(EXAMPLE, 0, heights)
            self.assertIsNone(caught.exception.index)

    def test_the_first_thing_that_is_none(self):
        good = ((0, 3), 1)
        for bad in (
            None, True, 0, "", "ab", [], {}, (), ((0, 3),), ((0, 3), 1, 1), [(0, 3), 1], ([0, 3], 1), ((0, 1), 1),
            ((3, 0), 1), ((0, 0), 1), ((0, 4), 1), ((-1,), 1), ((False, 3), 1), (0, 1), (None, 1), ("", 1), ({}, 1),
            ((0, 3), -1), ((0, 3), FAR + 1), ((0, 3), True), ((0, 3), False), ((0, 3), None), ((0, 3), "1"),
            ((0, 3), (1,)), ((0, 3), [1]), (1, (0, 3)), (((0, 3),), 1), EXAMPLE,
        ):
            for at in range(3):
                heights = [good] * at + [bad] + [good, None]
                for value in (heights, tuple(heights)):
                    with self.subTest(bad=bad, at=at):
                        with self.assertRaises(BadHeights) as caught:
                            of_lots(EXAMPLE, 0, value)
                        self.assertEqual(caught.exception.index, at)

    def test_a_wrong_thing_is_told_ahead_of_what_is_too_high(self):
        with self.assertRaises(BadHeights) as caught:
            of_lots(EXAMPLE, FAR, [((0, 3), 1), None])
        self.assertEqual(caught.exception.index, 1)
        with self.assertRaises(TooHigh):
            of_lots(EXAMPLE, FAR, [((0, 3), 1)])

    def test_each_other_s_way_back(self):
        for board in all_boards(1, 2):
            lots = closed_lots(board)
            for motion in plain_motions(board, 0, 2):
                self.assertEqual(of_lots(board, *as_lots(board, motion)), motion)
            ladder = [lot for lot in lots if 0 < len(lot) < len(board)][:1]
            told = (3, tuple((lot, 2) for lot in ladder))
            self.assertEqual(as_lots(board, of_lots(board, *told)), told)


if __name__ == "__main__":
    unittest.main()
