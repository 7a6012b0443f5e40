"""Points 14, 15 and 20: what is held within strengths, which lots are strained or tight, and what breaks first."""

import unittest
from fractions import Fraction
from itertools import product
from math import gcd

from plain import all_boards, all_lots, five_by_five, larger_boards, plain_closed_lots, plain_steps, tiny_boards
from plainloads import (
    all_carryings, all_loads, load_of, load_on, mixed_load, mixed_strengths, noughts, out_of, plain_holds_load,
    plain_strained,
)

from wovenframes.boards import Board
from wovenframes.carrying import is_carried
from wovenframes.errors import BadStrengths
from wovenframes.strengths import (
    first_to_break, greatest_factor, holding, is_held, shows_held, strained_lot, tight_lots,
)

EXAMPLE = Board((">x", ".<"))


def some_boards():
    """Boards of few threads and of many, each with strengths and a load, in turn light ones and heavy ones."""
    for at, board in enumerate([*list(tiny_boards())[::5], *larger_boards(), *five_by_five()]):
        least, most, heavy = ((0, 9, 2), (4, 9, 1), (5, 9, 3), (1, 3, 1), (0, 9, 20))[at % 5]
        yield board, mixed_strengths(board, at, most, least), mixed_load(board, at, heavy)


class Held(unittest.TestCase):
    def test_against_all_carryings(self):
        for at, board in enumerate(tiny_boards()):
            strengths = mixed_strengths(board, at, 2)
            found = all_carryings(board, strengths)
            for load in all_loads(board, 2):
                self.assertIs(is_held(board, strengths, load), load in found)
                self.assertEqual(strained_lot(board, strengths, load) is None, load in found)
                if load in found:
                    self.assertIn(holding(board, strengths, load), found[load])
                else:
                    self.assertIsNone(holding(board, strengths, load))

    def test_larger_boards(self):
        for board, strengths, load in some_boards():
            wanted = plain_holds_load(board, strengths, load)
            self.assertIs(is_held(board, strengths, load), wanted)
            carrying = holding(board, strengths, load)
            if wanted:
                self.assertIsInstance(carrying, tuple)
                self.assertEqual(load_of(board, carrying), load)
                self.assertTrue(all(0 <= number <= strength for number, strength in zip(carrying, strengths)))
                self.check_shown(board, strengths, load, carrying)
            else:
                self.assertIsNone(carrying)

    def check_shown(self, board, strengths, load, carrying):
        self.assertIs(shows_held(board, strengths, load, carrying), True)
        for at in range(len(carrying)):
            for more in (-1, 1):
                changed = carrying[:at] + (carrying[at] + more,) + carrying[at + 1:]
                self.assertIs(shows_held(board, strengths, load, changed), False)

    def test_shown_against_all_tuples_of_integers(self):
        for at, board in enumerate([*all_boards(1, 1), *all_boards(1, 2), Board(("x.", ".>")), EXAMPLE]):
            strengths = mixed_strengths(board, at, 2)
            found = all_carryings(board, tuple(strength + 1 for strength in strengths))
            for load in all_loads(board, 1):
                for other in list(found):
                    for numbers in found[other]:
                        wanted = other == load and all(one <= most for one, most in zip(numbers, strengths))
                        self.assertIs(shows_held(board, strengths, load, numbers), wanted)

    def test_any_carrying_within_strengths_and_not_the_least_alone(self):
        load = (2, -1, -1, 0)
        self.assertIs(shows_held(EXAMPLE, (1, 2, 1, 1), load, (1, 2, 1, 1)), True)
        self.assertIs(shows_held(EXAMPLE, (1, 2, 0, 1), load, (1, 2, 1, 1)), False)
        self.assertIs(shows_held(EXAMPLE, (1, 2, 0, 1), load, (1, 1, 0, 1)), True)

    def test_any_value(self):
        load, strengths = (2, -1, -1, 0), (9, 9, 9, 9)
        values = (
            None, True, False, 0, 3, "", "1101", [], [1, 1, 0, 1], {}, {0: 1}, (), (1, 1, 0), (1, 1, 0, 1, 0), (1,),
            (True, 1, 0, 1), (1, 1, False, 1), (1, 1, 0, True), (1, 1, None, 1), ("1", 1, 0, 1), ((1,), 1, 0, 1),
            ([1], 1, 0, 1), (1, 1, {}, 1), ((1, 1, 0, 1),), (1, 0, -1, 1), (1, 10, 9, 1), (10 ** 30, 1, 0, 1), EXAMPLE,
        )
        for value in values:
            with self.subTest(value=value):
                self.assertIs(shows_held(EXAMPLE, strengths, load, value), False)
        self.assertIs(shows_held(EXAMPLE, strengths, load, (1, 9, 8, 1)), True)

    def test_with_strengths_enough_what_is_held_is_what_is_carried(self):
        for board in [*tiny_boards(), *larger_boards()]:
            enough = (9,) * len(plain_steps(board))
            for seed in range(3):
                load = mixed_load(board, seed, 2)
                if sum(number for number in load if number > 0) <= 9:
                    self.assertEqual(is_held(board, enough, load), is_carried(board, load))
                self.assertLessEqual(is_held(board, enough, load), is_carried(board, load))

    def test_strengths_of_0_and_9(self):
        for board in larger_boards():
            none = (0,) * len(plain_steps(board))
            self.assertEqual([holding(board, none, noughts(board)), strained_lot(board, none, noughts(board))],
                             [none, None])
            for seed in range(3):
                load = mixed_load(board, seed, 20)
                self.assertIs(is_held(board, none, load), load == noughts(board))
        self.assertIs(is_held(Board((">",)), (9,), (9, -9)), True)
        self.assertIs(is_held(Board((">",)), (9,), (10, -10)), False)

    def test_wrong_strengths(self):
        board, load = Board((">x",)), (0, 0, 0)
        for strengths in ((10, 0, 0), (0, 0, 10), (-1, 0, 0), (0, 0), (0, 0, 0, 0), (), (0, True, 0), [0, 0, 0], None):
            for call in (is_held, holding, strained_lot, greatest_factor, tight_lots, first_to_break):
                with self.assertRaises(BadStrengths):
                    call(board, strengths, load)
            with self.assertRaises(BadStrengths):
                shows_held(board, strengths, load, strengths)


class Strained(unittest.TestCase):
    def test_against_all_lots(self):
        for board, strengths, load in some_boards():
            self.assertEqual(strained_lot(board, strengths, load), plain_strained(board, strengths, load))

    def test_it_need_not_be_closed(self):
        found = [
            (board, strained_lot(board, strengths, load))
            for board, strengths, load in some_boards()
            if strained_lot(board, strengths, load) is not None
        ]
        self.assertTrue(any(lot not in plain_closed_lots(board) for board, lot in found))
        self.assertTrue(any(lot in plain_closed_lots(board) for board, lot in found))

    def test_just_at_the_strengths(self):
        board = Board((">>",))
        self.assertIsNone(strained_lot(board, (3, 4), (7, -3, -4)))
        self.assertEqual(strained_lot(board, (3, 4), (8, -4, -4)), (0,))
        self.assertEqual(strained_lot(board, (3, 4), (7, -4, -3)), (0, 2))
        self.assertEqual(strained_lot(board, (9, 9), (0, 1, -1)), (1,))


class Factors(unittest.TestCase):
    def test_against_all_lots(self):
        for board, strengths, load in some_boards():
            shares = {
                lot: Fraction(out_of(board, strengths, lot), load_on(load, lot))
                for lot in all_lots(board)
                if load_on(load, lot) > 0
            }
            if not shares:
                self.assertEqual(load, noughts(board))
                self.assertIsNone(greatest_factor(board, strengths, load))
                self.assertEqual(tight_lots(board, strengths, load), [])
                continue
            least = min(shares.values())
            told = greatest_factor(board, strengths, load)
            self.assertEqual(told, (least.numerator, least.denominator))
            self.assertEqual(tight_lots(board, strengths, load), [lot for lot in shares if shares[lot] == least])

    def test_it_is_the_greatest_by_which_the_load_is_held(self):
        for board, strengths, load in some_boards():
            if load == noughts(board):
                continue
            above, beneath = greatest_factor(board, strengths, load)
            self.assertEqual([gcd(above, beneath), above >= 0, beneath >= 1], [1, True, True])
            # Whole numbers are enough for the load above times, within the strengths beneath times.
            self.assertTrue(self.is_held_times(board, strengths, load, above, beneath))
            self.assertFalse(self.is_held_times(board, strengths, load, above * 1000 + 1, beneath * 1000))

    def is_held_times(self, board, strengths, load, above, beneath):
        larger = tuple(strength * beneath for strength in strengths)
        return plain_holds_load(board, larger, tuple(number * above for number in load))

    def test_held_just_if_the_factor_is_1_or_more(self):
        for board, strengths, load in some_boards():
            factor = greatest_factor(board, strengths, load)
            self.assertEqual(is_held(board, strengths, load), factor is None or factor[0] >= factor[1])

    def test_nought_and_great_ones(self):
        self.assertEqual(greatest_factor(Board((".",)), (), (1, -1)), (0, 1))
        self.assertEqual(greatest_factor(Board((">",)), (0,), (20, -20)), (0, 1))
        self.assertEqual(greatest_factor(Board((">",)), (9,), (1, -1)), (9, 1))
        self.assertEqual(greatest_factor(Board((">",)), (9,), (20, -20)), (9, 20))
        self.assertEqual(greatest_factor(Board((">",)), (8,), (20, -20)), (2, 5))
        self.assertEqual(greatest_factor(Board(("<",)), (9,), (1, -1)), (0, 1))
        self.assertEqual(greatest_factor(Board((">",)), (9,), (0, 0)), None)
        whole = Board(("xxxxx",) * 5)
        self.assertEqual(greatest_factor(whole, (9,) * 50, (20,) * 5 + (-20,) * 5), (9, 4))
        self.assertEqual(greatest_factor(whole, (9,) * 50, (1, -1) + (0,) * 8), (45, 1))

    def test_two_tight_lots_together_and_in_common(self):
        for board, strengths, load in some_boards():
            tight = tight_lots(board, strengths, load)
            for one, other in product(tight[:12], repeat=2):
                for lot in (tuple(sorted(set(one) & set(other))), tuple(sorted(set(one) | set(other)))):
                    empty = load_on(load, lot) <= 0 and out_of(board, strengths, lot) == 0
                    self.assertTrue(lot in tight or empty)


class Breaks(unittest.TestCase):
    def test_those_that_have_their_strength_whole_in_every_carrying(self):
        for board, strengths, load in some_boards():
            told = first_to_break(board, strengths, load)
            if load == noughts(board):
                self.assertEqual(told, [])
                continue
            above, beneath = greatest_factor(board, strengths, load)
            larger = tuple(number * above for number in load)
            wanted = []
            for at, step in enumerate(plain_steps(board)):
                # With a little less in this step alone the load is held no more.
                less = tuple(strength * beneath - (place == at) for place, strength in enumerate(strengths))
                if strengths[at] > 0 and not plain_holds_load(board, less, larger):
                    wanted.append(step)
            self.assertEqual(told, wanted)

    def test_against_all_carryings(self):
        for at, board in enumerate(list(tiny_boards())[::7]):
            strengths = mixed_strengths(board, at, 2)
            for load in all_loads(board, 1):
                if load == noughts(board):
                    continue
                above, beneath = greatest_factor(board, strengths, load)
                if beneath == 1:
                    carryings = all_carryings(board, strengths)[tuple(number * above for number in load)]
                    wanted = [
                        step
                        for place, step in enumerate(plain_steps(board))
                        if strengths[place] > 0
                        and all(numbers[place] == strengths[place] for numbers in carryings)
                    ]
                    self.assertEqual(first_to_break(board, strengths, load), wanted)

    def test_they_lead_out_of_a_tight_lot(self):
        for board, strengths, load in some_boards():
            tight, pairs = tight_lots(board, strengths, load), plain_steps(board)
            wanted = [
                step
                for step, strength in zip(pairs, strengths)
                if strength and any(step[0] in lot and step[1] not in lot for lot in tight)
            ]
            self.assertEqual(first_to_break(board, strengths, load), wanted)

    def test_no_strength_nothing_breaks(self):
        for board in larger_boards():
            none = (0,) * len(plain_steps(board))
            self.assertEqual(first_to_break(board, none, mixed_load(board, 1, 20)), [])


if __name__ == "__main__":
    unittest.main()
