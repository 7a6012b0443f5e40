"""Points 8, 11, 13 and 20: which loads are carried, by what, and what bars them."""

import unittest
from itertools import product

from plain import all_boards, larger_boards, plain_closed_lots, plain_parts, plain_steps, tiny_boards
from plainloads import (
    all_carryings, all_loads, can_be_cheaper, load_of, load_on, mixed_load, noughts, plain_barring, plain_carries,
    pulled_in_all,
)

from wovenframes.boards import Board
from wovenframes.carrying import barring_lot, is_carried, least_pull, pulls, shows_pulls
from wovenframes.errors import BadLoad
from wovenframes.lots import holds, is_closed
from wovenframes.readings import as_load, lifting

EXAMPLE = Board((">x", ".<"))


def loads_for(board, many=4):
    """Some loads, light and heavy, among them ones at 20 and -20."""
    ends = noughts(board)[2:]
    return [
        noughts(board), (20, -20, *ends), (-20, 20, *ends), (*ends, -20, 20), (*ends, 20, -20),
        *(mixed_load(board, seed, greatest) for seed, greatest in zip(range(many), (1, 2, 7, 20))),
    ]


class Carried(unittest.TestCase):
    def test_against_all_carryings(self):
        for board in tiny_boards():
            many = len(plain_steps(board))
            # The least carrying of a load that pulls 2 in all has no number above 2.
            found = all_carryings(board, (2 if many <= 6 else 1,) * many)
            for load in all_loads(board, 2 if many <= 6 else 1):
                self.check(board, load, found.get(load, []))

    def check(self, board, load, carryings):
        least = min((sum(numbers) for numbers in carryings), default=None)
        self.assertIs(is_carried(board, load), bool(carryings))
        self.assertEqual(least_pull(board, load), least)
        self.assertEqual(barring_lot(board, load), plain_barring(board, load))
        if carryings:
            self.assertIn(pulls(board, load), carryings)
            self.assertEqual(sum(pulls(board, load)), least)
        else:
            self.assertIsNone(pulls(board, load))
        for numbers in carryings:
            self.assertIs(shows_pulls(board, load, numbers), sum(numbers) == least)

    def test_larger_boards(self):
        for board in larger_boards():
            for load in loads_for(board):
                wanted = plain_carries(board, load)
                self.assertIs(is_carried(board, load), wanted)
                self.assertEqual(barring_lot(board, load), plain_barring(board, load))
                self.assertEqual(barring_lot(board, load) is None, wanted)
                carrying = pulls(board, load)
                self.assertEqual(carrying is not None, wanted)
                if wanted:
                    self.check_pulls(board, load, carrying)
                else:
                    self.assertIsNone(least_pull(board, load))
                    self.assertIs(shows_pulls(board, load, None), False)

    def check_pulls(self, board, load, carrying):
        many = len(plain_steps(board))
        self.assertIsInstance(carrying, tuple)
        self.assertTrue(all(number.__class__ is int and number >= 0 for number in carrying))
        self.assertEqual(load_of(board, carrying), load)
        self.assertFalse(can_be_cheaper(board, (10 ** 6,) * many, (1,) * many, carrying))
        self.assertEqual(least_pull(board, load), sum(carrying))
        self.assertIs(shows_pulls(board, load, carrying), True)
        for at in range(many):
            for more in (-1, 1):
                changed = carrying[:at] + (carrying[at] + more,) + carrying[at + 1:]
                self.assertIs(shows_pulls(board, load, changed), False)

    def test_the_nearest_one_may_have_to_give_way(self):
        # The load of 1 can go to 2 alone, so that 0 has to take the longer way to 3, however it was begun.
        board = Board((">>", ">."))
        self.assertEqual(pulls(board, (1, 1, -1, -1)), (0, 1, 1))
        self.assertEqual(pulls(board, (2, 1, -2, -1)), (1, 1, 1))
        board = Board(("x>.", "><<", "..>"))
        for load in all_loads(board, 2):
            if plain_carries(board, load):
                self.assertFalse(can_be_cheaper(board, (9,) * 7, (1,) * 7, pulls(board, load)))

    def test_a_barring_lot_is_closed_and_pulled_below_nought(self):
        for board in larger_boards():
            for load in loads_for(board):
                lot = barring_lot(board, load)
                lots = [other for other in plain_closed_lots(board) if load_on(load, other) < 0]
                if lot is None:
                    self.assertEqual(lots, [])
                else:
                    self.assertTrue(is_closed(board, lot))
                    self.assertLess(load_on(load, lot), 0)
                    self.assertEqual(lot, min(lots, key=lambda other: (len(other), other)))

    def test_noughts_are_carried_by_noughts(self):
        for board in larger_boards():
            none = (0,) * len(plain_steps(board))
            self.assertEqual([is_carried(board, noughts(board)), pulls(board, noughts(board))], [True, none])
            self.assertEqual([least_pull(board, noughts(board)), barring_lot(board, noughts(board))], [0, None])
            self.assertIs(shows_pulls(board, noughts(board), none), True)

    def test_without_steps_and_with_all(self):
        loose, knots = Board((".....",) * 5), Board(("xxxxx",) * 5)
        heavy = (20,) * 5 + (-20,) * 5
        self.assertEqual([is_carried(loose, heavy), pulls(loose, heavy), barring_lot(loose, heavy)],
                         [False, None, (5,)])
        self.assertEqual([is_carried(knots, heavy), least_pull(knots, heavy), barring_lot(knots, heavy)],
                         [True, 100, None])
        self.assertEqual(least_pull(knots, (20, -20) + (0,) * 8), 40)
        self.assertEqual(least_pull(Board((">",)), (20, -20)), 20)
        self.assertEqual(pulls(Board(("x",)), (-20, 20)), (0, 20))

    def test_a_number_may_be_above_20(self):
        board = Board((">.", ">.", "<>"))
        load = (20, 20, -20, 0, -20)
        self.assertEqual(plain_steps(board), [(0, 3), (1, 3), (2, 4), (3, 2)])
        self.assertEqual([pulls(board, load), least_pull(board, load)], [(20, 20, 20, 40), 100])
        self.assertIs(shows_pulls(board, load, (20, 20, 20, 40)), True)
        self.assertIs(is_carried(board, (20, 20, -20, -20, 0)), True)
        self.assertEqual(barring_lot(board, (20, 20, 0, -20, -20)), None)
        self.assertEqual(barring_lot(board, (0, 0, 0, 20, -20)), None)
        self.assertEqual(barring_lot(board, (-20, 20, 0, 20, -20)), (0,))


class ShowsPulls(unittest.TestCase):
    def test_against_all_tuples_of_integers(self):
        for board in (Board((">",)), Board(("x",)), Board((".",)), Board(("xx",)), Board(("x", ">")), EXAMPLE):
            found = all_carryings(board, (3,) * len(plain_steps(board)))
            for load in all_loads(board, 2):
                least = least_pull(board, load)
                for other in list(found):
                    for numbers in found[other]:
                        wanted = other == load and sum(numbers) == least
                        self.assertIs(shows_pulls(board, load, numbers), wanted)

    def test_any_value(self):
        load = (2, -1, -1, 0)
        self.assertIs(shows_pulls(EXAMPLE, load, (1, 1, 0, 1)), True)
        values = (
            None, True, False, 0, 3, "", "1101", [], [1, 1, 0, 1], {}, {0: 1}, (), (1, 1, 0), (1, 1, 0, 1, 0), (1,),
            (True, 1, 0, 1), (1, 1, False, 1), (1, 1, 0, True), (1, 1, None, 1), ("1", 1, 0, 1), ((1,), 1, 0, 1),
            ([1], 1, 0, 1), (1, 1, {}, 1), ((1, 1, 0, 1),), (1, 2, 1, 1), (1, 1, -1, 0), (1, 0, -1, 1),
            (10 ** 30, 1, 0, 1), EXAMPLE, (EXAMPLE, 1, 0, 1),
        )
        for value in values:
            with self.subTest(value=value):
                self.assertIs(shows_pulls(EXAMPLE, load, value), False)
        for value in values:
            self.assertIs(shows_pulls(EXAMPLE, (-1, 1, 0, 0), value), False)

    def test_no_number_is_below_nought_though_the_sum_is_the_least(self):
        board = Board(("xx",))
        self.assertEqual(plain_steps(board), [(0, 1), (0, 2), (1, 0), (2, 0)])
        self.assertIs(shows_pulls(board, (0, 0, 0), (1, -1, 1, -1)), False)
        self.assertIs(shows_pulls(board, (0, 0, 0), (0, 0, 0, 0)), True)
        self.assertIs(shows_pulls(board, (1, -1, 0), (2, -1, 1, -1)), False)
        self.assertIs(shows_pulls(board, (1, -1, 0), (1, 0, 0, 0)), True)

    def test_of_boards_without_steps(self):
        self.assertIs(shows_pulls(Board((".",)), (0, 0), ()), True)
        self.assertIs(shows_pulls(Board((".",)), (1, -1), ()), False)
        self.assertIs(shows_pulls(Board((".",)), (0, 0), (0,)), False)
        self.assertIs(shows_pulls(Board((".",)), (0, 0), []), False)


class BadLoads(unittest.TestCase):
    def test_at_20_and_beyond(self):
        board = Board(("x.",))
        for load in ((20, -20, 0), (-20, 0, 20), (20, -10, -10)):
            self.assertIs(is_carried(board, load), plain_carries(board, load))
        for load in ((21, -21, 0), (21, -20, -1), (1, 20, -21), (-21, 1, 20), (40, -20, -20), (10, 11, -21)):
            for call in (is_carried, pulls, least_pull, barring_lot):
                with self.assertRaises(BadLoad):
                    call(board, load)
            with self.assertRaises(BadLoad):
                shows_pulls(board, load, None)

    def test_of_sum_0(self):
        board = Board((">",))
        for load in product(range(-3, 4), repeat=2):
            if sum(load) == 0:
                self.assertIs(is_carried(board, load), load[0] >= 0)
            else:
                with self.assertRaises(BadLoad):
                    is_carried(board, load)


class TheseAreOne(unittest.TestCase):
    def test_a_board_holds_just_if_each_load_is_carried(self):
        for board in [*all_boards(1, 1), *all_boards(1, 2), *all_boards(2, 1), *all_boards(2, 2)]:
            wanted = all(is_carried(board, load) for load in all_loads(board, 1))
            self.assertEqual(holds(board), wanted)

    def test_what_holds_carries_all_loads(self):
        for board in larger_boards():
            if len(plain_parts(board)) == 1:
                self.assertTrue(all(is_carried(board, load) for load in loads_for(board)))
            else:
                load = as_load(board, lifting(board))
                self.assertIs(is_carried(board, load), False)
                self.assertEqual(barring_lot(board, load), plain_barring(board, load))

    def test_what_lifts_off_bars_a_load(self):
        for board in [*tiny_boards(), *list(larger_boards())[:100]]:
            for lot in plain_closed_lots(board)[1:-1]:
                self.assertIs(is_carried(board, as_load(board, lot)), False)

    def test_loads_that_are_carried_added_are_carried(self):
        for board in larger_boards():
            for seed in range(3):
                one, other = mixed_load(board, seed, 10), mixed_load(board, seed + 50, 10)
                both = tuple(sum(pair) for pair in zip(one, other))
                if is_carried(board, one) and is_carried(board, other):
                    self.assertIs(is_carried(board, both), True)
                    self.assertLessEqual(least_pull(board, both), least_pull(board, one) + least_pull(board, other))

    def test_the_least_pull_is_never_less_than_what_is_pulled(self):
        for board in larger_boards():
            for load in loads_for(board):
                if is_carried(board, load):
                    self.assertGreaterEqual(least_pull(board, load), pulled_in_all(load))
                    self.assertEqual(len(pulls(board, load)), len(plain_steps(board)))


if __name__ == "__main__":
    unittest.main()
