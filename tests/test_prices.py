"""Points 17 to 20: the cheapest carryings, the papers that show them, and the greatest pulls between two threads."""

import unittest
from itertools import product

from plain import all_boards, all_lots, five_by_five, larger_boards, plain_steps, threads_of, tiny_boards
from plainloads import (
    all_carryings, all_loads, can_be_cheaper, greatest_flow, load_of, mixed_load, mixed_numbers, mixed_strengths,
    noughts, out_of, plain_holds_load, plain_price,
)

from wovenframes.boards import Board
from wovenframes.carrying import least_pull
from wovenframes.errors import BadPrices, BadStrengths, BadThread
from wovenframes.prices import cheapest, greatest_pull, least_price, narrowest, price_paper, shows_price
from wovenframes.strengths import is_held

EXAMPLE = Board((">x", ".<"))


def mixed_prices(board, seed, greatest=9):
    return mixed_numbers(seed + 700, len(plain_steps(board)), 0, greatest)


def some_boards():
    """Boards of few threads and of many, each with strengths, prices and a load."""
    for at, board in enumerate([*list(tiny_boards())[::5], *larger_boards(), *five_by_five()]):
        least, most, heavy = ((0, 9, 2), (5, 9, 1), (6, 9, 3), (2, 5, 2))[at % 4]
        strengths = mixed_strengths(board, at, most, least)
        yield board, strengths, mixed_prices(board, at, (9, 2, 9)[at % 3]), mixed_load(board, at, heavy)


def plain_is_paper(board, strengths, prices, load, carrying, heights):
    """Whether a carrying and heights are a price paper, by the words of the document."""
    if load_of(board, carrying) != load:
        return False
    for (one, other), strength, price, number in zip(plain_steps(board), strengths, prices, carrying):
        if not 0 <= number <= strength:
            return False
        if number < strength and not heights[other] <= heights[one] + price:
            return False
        if number > 0 and not heights[other] >= heights[one] + price:
            return False
    return True


class Cheapest(unittest.TestCase):
    def test_against_all_carryings(self):
        for at, board in enumerate(tiny_boards()):
            strengths, prices = mixed_strengths(board, at, 2), mixed_prices(board, at, 4)
            found = all_carryings(board, strengths)
            for load in all_loads(board, 2):
                told = cheapest(board, strengths, prices, load)
                if load in found:
                    least = min(plain_price(numbers, prices) for numbers in found[load])
                    self.assertEqual(least_price(board, strengths, prices, load), least)
                    self.assertIn(told, found[load])
                    self.assertEqual(plain_price(told, prices), least)
                else:
                    self.assertIsNone(least_price(board, strengths, prices, load))
                    self.assertIsNone(told)

    def test_larger_boards(self):
        held = 0
        for board, strengths, prices, load in some_boards():
            told = cheapest(board, strengths, prices, load)
            if not plain_holds_load(board, strengths, load):
                self.assertEqual([told, least_price(board, strengths, prices, load)], [None, None])
                continue
            held += load != noughts(board)
            self.assertIsInstance(told, tuple)
            self.assertEqual(load_of(board, told), load)
            self.assertTrue(all(0 <= number <= strength for number, strength in zip(told, strengths)))
            self.assertEqual(least_price(board, strengths, prices, load), plain_price(told, prices))
            self.assertFalse(can_be_cheaper(board, strengths, prices, told))
        self.assertGreater(held, 60)

    def test_the_cheap_way_gives_way_where_it_is_full(self):
        # From 0 to 2 straight for 9, or by 3 and 1 for 2 in all.
        board = Board((">>", "><"))
        self.assertEqual(plain_steps(board), [(0, 2), (0, 3), (1, 2), (3, 1)])
        prices = (9, 1, 1, 0)
        self.assertEqual(cheapest(board, (9, 2, 9, 9), prices, (2, 0, -2, 0)), (0, 2, 2, 2))
        self.assertEqual(cheapest(board, (9, 2, 9, 9), prices, (3, 0, -3, 0)), (1, 2, 2, 2))
        self.assertEqual(least_price(board, (9, 2, 9, 9), prices, (3, 0, -3, 0)), 13)
        self.assertEqual(cheapest(board, (9, 9, 1, 9), prices, (3, 0, -3, 0)), (2, 1, 1, 1))
        self.assertEqual(least_price(board, (0, 2, 9, 9), prices, (3, 0, -3, 0)), None)

    def test_with_prices_of_1_and_strengths_enough_it_is_the_least_pull(self):
        for board in larger_boards():
            many = len(plain_steps(board))
            for seed in range(3):
                load = mixed_load(board, seed, 1)
                if is_held(board, (9,) * many, load):
                    self.assertEqual(least_price(board, (9,) * many, (1,) * many, load), least_pull(board, load))

    def test_prices_of_0_and_9(self):
        for board, strengths, _, load in some_boards():
            many = len(strengths)
            if is_held(board, strengths, load):
                self.assertEqual(least_price(board, strengths, (0,) * many, load), 0)
                self.assertEqual(least_price(board, strengths, (9,) * many, load),
                                 9 * least_price(board, strengths, (1,) * many, load))

    def test_noughts_cost_nothing(self):
        for board, strengths, prices, _ in some_boards():
            self.assertEqual(least_price(board, strengths, prices, noughts(board)), 0)
            told = cheapest(board, strengths, prices, noughts(board))
            self.assertEqual([load_of(board, told), plain_price(told, prices)], [noughts(board), 0])

    def test_wrong_prices(self):
        for prices in ((10, 0, 0), (0, 0, 10), (-1, 0, 0), (0, 0), (0, 0, 0, 0), (), (0, True, 0), [0, 0, 0], None):
            for call, rest in ((least_price, ()), (cheapest, ()), (price_paper, ()), (shows_price, (None,))):
                with self.assertRaises(BadPrices):
                    call(Board((">x",)), (0, 0, 0), prices, (0, 0, 0), *rest)


class Papers(unittest.TestCase):
    def test_there_is_one_just_if_the_load_is_held(self):
        for board, strengths, prices, load in some_boards():
            paper = price_paper(board, strengths, prices, load)
            if not plain_holds_load(board, strengths, load):
                self.assertIsNone(paper)
                self.assertIs(shows_price(board, strengths, prices, load, None), False)
                continue
            self.assertIsInstance(paper, tuple)
            carrying, heights = paper
            self.assertEqual([carrying.__class__, heights.__class__, len(heights)], [tuple, tuple, len(board)])
            self.assertTrue(all(height.__class__ is int for height in heights))
            self.assertTrue(plain_is_paper(board, strengths, prices, load, carrying, heights))
            self.assertIs(shows_price(board, strengths, prices, load, paper), True)
            self.assertEqual(plain_price(carrying, prices), least_price(board, strengths, prices, load))

    def test_one_that_is_changed(self):
        for board, strengths, prices, load in some_boards():
            paper = price_paper(board, strengths, prices, load)
            if paper is None:
                continue
            carrying, heights = paper
            for at in range(len(carrying)):
                for more in (-1, 1):
                    changed = carrying[:at] + (carrying[at] + more,) + carrying[at + 1:]
                    self.assertIs(shows_price(board, strengths, prices, load, (changed, heights)), False)
            for at in range(len(heights)):
                for more in (-10, -1, 1, 10):
                    changed = heights[:at] + (heights[at] + more,) + heights[at + 1:]
                    self.assertIs(shows_price(board, strengths, prices, load, (carrying, changed)),
                                  plain_is_paper(board, strengths, prices, load, carrying, changed))
            for more in (-(10 ** 30), -7, 10 ** 30):
                raised = tuple(height + more for height in heights)
                self.assertIs(shows_price(board, strengths, prices, load, (carrying, raised)), True)

    def test_against_all_carryings_and_heights(self):
        for at, board in enumerate([*all_boards(1, 1), *list(all_boards(1, 2))[::2], *list(all_boards(2, 1))[1::2]]):
            strengths, prices = mixed_strengths(board, at, 2), mixed_prices(board, at, 2)
            found = all_carryings(board, tuple(strength + 1 for strength in strengths))
            for load in all_loads(board, 1):
                papers = 0
                for numbers in found.get(load, []):
                    for heights in product(range(-2, 3), repeat=len(board)):
                        wanted = plain_is_paper(board, strengths, prices, load, numbers, heights)
                        papers += wanted
                        self.assertIs(shows_price(board, strengths, prices, load, (numbers, heights)), wanted)
                self.assertEqual(papers > 0, is_held(board, strengths, load))

    def test_for_each_cheapest_one_and_for_no_other_there_are_heights(self):
        for at, board in enumerate(list(all_boards(1, 2))[::3]):
            strengths, prices = mixed_strengths(board, at, 2), mixed_prices(board, at, 1)
            found = all_carryings(board, strengths)
            for load in list(found):
                if max(load) > 1:
                    continue
                for numbers in found[load]:
                    shown = any(
                        shows_price(board, strengths, prices, load, (numbers, heights))
                        for heights in product(range(-2, 3), repeat=len(board))
                    )
                    is_cheapest = plain_price(numbers, prices) == least_price(board, strengths, prices, load)
                    self.assertEqual(shown, is_cheapest)

    def test_any_value(self):
        strengths, prices, load = (1, 2, 1, 1), (3, 0, 0, 2), (2, -1, -1, 0)
        carrying, heights = (1, 1, 0, 1), (0, 2, 3, 0)
        self.assertIs(shows_price(EXAMPLE, strengths, prices, load, (carrying, heights)), True)
        values = (
            None, True, False, 0, "", "ab", [], [carrying, heights], {}, {0: carrying, 1: heights}, (), (carrying,),
            (carrying, heights, None), (carrying, None), (None, heights), (list(carrying), heights),
            (carrying, list(heights)), (carrying, heights[:-1]), (carrying, heights + (0,)), (carrying, ()),
            ((), heights), (carrying[:-1], heights), (carrying + (0,), heights), (heights, carrying),
            (carrying, (0, 2, 3, False)), (carrying, (None, 2, 3, 0)), (carrying, ("0", 2, 3, 0)),
            (carrying, ((0,), 2, 3, 0)), (carrying, ([], 2, 3, 0)), ((True, 1, 0, 1), heights),
            ((1, 1, False, 1), heights), ((1, 1, None, 1), heights), (("1", 1, 0, 1), heights),
            (([1], 1, 0, 1), heights), ((1, 1, -1, 0), heights), ("1101", "0230"), ({}, heights), (carrying, {}),
            (True, False), EXAMPLE, (EXAMPLE, EXAMPLE),
        )
        for value in values:
            with self.subTest(value=value):
                self.assertIs(shows_price(EXAMPLE, strengths, prices, load, value), False)
                self.assertIs(shows_price(EXAMPLE, strengths, prices, (-1, 1, 0, 0), value), False)

    def test_a_step_of_no_strength_bars_no_heights(self):
        board = Board((">.",))
        for heights in product(range(-2, 3), repeat=3):
            self.assertIs(shows_price(board, (0,), (1,), (0, 0, 0), ((0,), heights)), True)
            self.assertIs(shows_price(board, (1,), (1,), (0, 0, 0), ((0,), heights)), heights[1] <= heights[0] + 1)
            self.assertIs(shows_price(board, (1,), (1,), (1, -1, 0), ((1,), heights)), heights[1] >= heights[0] + 1)
            self.assertIs(shows_price(board, (2,), (1,), (1, -1, 0), ((1,), heights)), heights[1] == heights[0] + 1)


class Pulls(unittest.TestCase):
    def test_against_what_can_go(self):
        for board, strengths, _, _ in some_boards():
            rooms = {("", ""): 0, **{(thread, thread): 0 for thread in threads_of(board)}}
            rooms.update(zip(plain_steps(board), strengths))
            for one, other in product(threads_of(board), repeat=2):
                if len(board) <= 4 or (3 * one + other) % 8 == 0:
                    self.check(board, strengths, one, other, rooms)

    def check(self, board, strengths, one, other, rooms):
        if one == other:
            self.assertEqual([greatest_pull(board, strengths, one, other), narrowest(board, strengths, one, other)],
                             [None, None])
            return
        wanted = greatest_flow(rooms, one, other)
        self.assertEqual(greatest_pull(board, strengths, one, other), wanted)
        lots = [lot for lot in all_lots(board) if one in lot and other not in lot]
        self.assertEqual(narrowest(board, strengths, one, other),
                         next(lot for lot in lots if out_of(board, strengths, lot) == wanted))

    def test_against_all_carryings(self):
        for at, board in enumerate(list(tiny_boards())[::3]):
            strengths = mixed_strengths(board, at, 2)
            found = all_carryings(board, strengths)
            for one, other in product(threads_of(board), repeat=2):
                loads = [
                    tuple(number * ((thread == one) - (thread == other)) for thread in threads_of(board))
                    for number in range(12)
                ]
                wanted = None if one == other else max(number for number in range(12) if loads[number] in found)
                self.assertEqual(greatest_pull(board, strengths, one, other), wanted)

    def test_however_great(self):
        whole = Board(("xxxxx",) * 5)
        for one, other in product(range(10), repeat=2):
            if one != other:
                self.assertEqual(greatest_pull(whole, (9,) * 50, one, other), 45)
                self.assertEqual(narrowest(whole, (9,) * 50, one, other), (one,))
        self.assertEqual(greatest_pull(Board(("x",)), (9, 0), 0, 1), 9)
        self.assertEqual(greatest_pull(Board(("x",)), (9, 0), 1, 0), 0)

    def test_without_strengths(self):
        for board in larger_boards():
            none = (0,) * len(plain_steps(board))
            last = len(board) - 1
            self.assertEqual([greatest_pull(board, none, 0, last), narrowest(board, none, 0, last)], [0, (0,)])
            self.assertEqual([greatest_pull(board, none, last, 0), narrowest(board, none, last, 0)], [0, (last,)])

    def test_never_below_the_least_along_any_row_of_threads(self):
        for board, strengths, _, _ in some_boards():
            if len(board) > 6:
                continue
            pulled = {pair: greatest_pull(board, strengths, *pair) for pair in product(threads_of(board), repeat=2)}
            for one, mid, last in product(threads_of(board), repeat=3):
                if one != mid and mid != last and one != last:
                    self.assertGreaterEqual(pulled[one, last], min(pulled[one, mid], pulled[mid, last]))

    def test_the_order_of_errors(self):
        for call in (greatest_pull, narrowest):
            for strengths, one, other, wanted in (
                ((1, 1), 9, 9, BadStrengths), (1, 0, 1, BadStrengths), ((1,), 9, None, BadThread),
                ((1,), 0, 2, BadThread), ((1,), True, 1, BadThread), ((1,), 0, True, BadThread),
                ((1,), -1, 0, BadThread), ((1,), 2, 2, BadThread),
            ):
                with self.assertRaises(wanted):
                    call(Board((">",)), strengths, one, other)
        self.assertEqual(greatest_pull(Board((">",)), (1,), 0, 1), 1)


if __name__ == "__main__":
    unittest.main()
