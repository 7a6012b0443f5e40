"""Points 54 and 61: what joins the parts, each answer of one held against those of others."""

import unittest
from itertools import product

from plain import five_by_five, larger_boards, mixed_board, plain_closed_lots, tiny_boards
from plainbreaks import boards_with_breaks, plain_breaks, plain_broken, some_log
from plainloads import all_loads, cells_with, mixed_load, mixed_numbers, mixed_strengths, noughts, with_signs
from plainpictures import larger_pictures, small_pictures

from wovenframes.boards import Board, flipped, steps, turned
from wovenframes.carrying import barring_lot, is_carried, least_pull
from wovenframes.chains import leads
from wovenframes.deeds import fewest_deeds
from wovenframes.drawings import bare, exchanged
from wovenframes.errors import TooMany
from wovenframes.holdweaves import holding_weave
from wovenframes.joins import joined, places
from wovenframes.lattices import lean
from wovenframes.loadcuts import fewest_cuts, first_fill
from wovenframes.lostlogs import alike_breaks, breaks_that_fit, left_behind
from wovenframes.lots import closed_lots, holds, in_order, parts
from wovenframes.motions import count_motions
from wovenframes.orders import count_orders
from wovenframes.pictures import first_wrong, free_board, free_cells, weaves
from wovenframes.plans import fewest_trials
from wovenframes.readings import ring_row
from wovenframes.sheets import read, write
from wovenframes.standing import can_stand
from wovenframes.strengths import greatest_factor, is_held
from wovenframes.surely import may_carry, may_hold, surely_carried, surely_holds
from wovenframes.trials import comes_along, idle_cells, told_apart


def some_boards():
    return [*list(tiny_boards())[::6], *larger_boards(), *five_by_five()]


def renamed(lots, there):
    """The lots, in order, that some lots become when each thread becomes another one."""
    return in_order([tuple(sorted(there[thread] for thread in lot)) for lot in lots])


class Breaks(unittest.TestCase):
    def test_surely_carried_just_if_the_fewest_cuts_are_more(self):
        seen = {}
        for seed, board in enumerate(boards_with_breaks()):
            loads = all_loads(board, 1) if len(board) < 4 else [mixed_load(board, seed + at, 2 + at) for at in range(3)]
            for load in (*loads, noughts(board)):
                cuts = fewest_cuts(board, load)
                for most in range(3):
                    self.assertIs(surely_carried(board, (), most, load), cuts is None or cuts > most)
                seen[cuts] = seen.get(cuts, 0) + 1
        self.assertTrue(all(seen.get(cuts, 0) > 5 for cuts in (None, 0, 1, 2)), seen)

    def test_told_apart_just_if_the_closed_lots_are_unlike(self):
        for board in list(boards_with_breaks())[::4]:
            for group in alike_breaks(board, 1):
                lots = [plain_closed_lots(plain_broken(board, lost)) for lost in group]
                self.assertTrue(all(some == lots[0] for some in lots))
            firsts = [group[0] for group in alike_breaks(board, 1)]
            lots = [plain_closed_lots(plain_broken(board, lost)) for lost in firsts]
            for one, other in product(range(len(firsts)), repeat=2):
                self.assertEqual(told_apart(board, firsts[one], firsts[other]) is None, lots[one] == lots[other])

    def test_what_surely_holds_surely_carries_all_loads(self):
        surely = 0
        for seed, board in enumerate(boards_with_breaks()):
            for log, most in product(((), some_log(board, seed + 2)), range(3)):
                if not breaks_that_fit(board, log, most):
                    continue
                for at in range(2):
                    load = mixed_load(board, seed + at, 20)
                    if surely_holds(board, log, most):
                        surely += 1
                        self.assertIs(surely_carried(board, log, most, load), True)
                    if may_hold(board, log, most):
                        self.assertIs(may_carry(board, log, most, load), True)
        self.assertGreater(surely, 30)

    def test_a_cell_is_idle_just_if_it_is_alike_with_none(self):
        for board in boards_with_breaks():
            alike = [lost[0] for lost in alike_breaks(board, 1)[0] if lost]
            self.assertEqual(idle_cells(board), alike)
            self.assertEqual(len(alike_breaks(board, 1)) == 1, fewest_trials(board, 1) == 0)

    def test_a_log_that_tells_nothing_leaves_all_breaks(self):
        for board in boards_with_breaks():
            self.assertEqual(left_behind(board, (), 2), plain_breaks(board, 2))


class Renamed(unittest.TestCase):
    def check(self, board, other, there):
        """Each thread of a board becomes another one of another board, and its steps and answers with it."""
        back = {to: thread for thread, to in there.items()}
        self.assertEqual(steps(other), sorted((there[one], there[to]) for one, to in steps(board)))
        self.assertEqual(closed_lots(other), renamed(closed_lots(board), there))
        self.assertEqual(in_order(parts(other)), renamed(parts(board), there))
        self.assertEqual((holds(other), count_orders(other)), (holds(board), count_orders(board)))
        self.assertEqual(count_motions(other, 7), count_motions(board, 7))
        self.assertEqual(ring_row(other) is None, ring_row(board) is None)
        for seed in range(2):
            load = mixed_load(board, seed, 9)
            moved = tuple(load[back[thread]] for thread in range(len(other)))
            self.assertEqual(least_pull(other, moved), least_pull(board, load))
            self.assertEqual(fewest_cuts(other, moved), fewest_cuts(board, load))
            strengths = dict(zip(steps(board), mixed_strengths(board, seed)))
            others = tuple(strengths[back[one], back[to]] for one, to in steps(other))
            held = tuple(strengths[step] for step in steps(board))
            self.assertEqual(is_held(other, others, moved), is_held(board, held, load))
            self.assertEqual(greatest_factor(other, others, moved), greatest_factor(board, held, load))
            self.assertEqual(surely_carried(other, (), 1, moved), surely_carried(board, (), 1, load))
        for one, to in product(range(len(board)), repeat=2):
            self.assertEqual(leads(other, there[one], there[to]), leads(board, one, to))
            self.assertEqual(can_stand(other, tuple(sorted({there[one], there[to]}))),
                             can_stand(board, tuple(sorted({one, to}))))
        self.assertEqual(fewest_trials(other, 1), fewest_trials(board, 1))
        self.assertEqual(len(idle_cells(other)), len(idle_cells(board)))
        for thread in range(len(board)):
            along = comes_along(board, (), thread)
            self.assertEqual(comes_along(other, (), there[thread]), tuple(sorted(there[one] for one in along)))

    def test_flipped(self):
        for board in some_boards()[::2]:
            many = len(board)
            self.check(board, flipped(board), {thread: (thread + board.columns) % many for thread in range(many)})
            self.assertLessEqual(fewest_deeds(board, flipped(board)), 1)

    def test_exchanged(self):
        for seed, board in enumerate(some_boards()[1::2]):
            thrown = mixed_numbers(seed, len(board), 0, 10 ** 6)
            order = tuple(sorted(range(len(board)), key=lambda thread: (thread >= board.rows, thrown[thread])))
            there = {thread: order.index(thread) for thread in range(len(board))}
            self.check(board, exchanged(board, order), there)

    def test_turned(self):
        for seed, board in enumerate(some_boards()):
            other = turned(board)
            self.assertEqual(steps(other), sorted((to, one) for one, to in steps(board)))
            beside = [tuple(thread for thread in range(len(board)) if thread not in lot) for lot in closed_lots(board)]
            self.assertEqual(closed_lots(other), in_order(beside))
            self.assertEqual(parts(other), parts(board))
            self.assertEqual((holds(other), count_orders(other)), (holds(board), count_orders(board)))
            self.assertEqual(count_motions(other, 5), count_motions(board, 5))
            load = mixed_load(board, seed, 9)
            against = tuple(-number for number in load)
            self.assertEqual(least_pull(other, against), least_pull(board, load))
            self.assertEqual(surely_carried(other, (), 1, against), surely_carried(board, (), 1, load))
            self.assertEqual(idle_cells(other), idle_cells(board))
            self.assertEqual(alike_breaks(other, 1), alike_breaks(board, 1))


class Loads(unittest.TestCase):
    def test_a_first_fill_carries_the_load_and_a_lean_board_what_the_board_carries(self):
        filled = 0
        for seed, board in enumerate(some_boards()):
            for at in range(4):
                load = mixed_load(board, seed + 7 * at, (1, 3, 20, 20)[at])
                self.assertIs(is_carried(lean(board), load), is_carried(board, load))
                try:
                    cells = first_fill(board, load)
                except TooMany:
                    continue
                filled += cells != ()
                self.assertIs(is_carried(Board(with_signs(board, cells, "x")), load), True)
                self.assertTrue(set(cells) <= set(cells_with(board, ".<>")))
            self.assertEqual(closed_lots(lean(board)), closed_lots(board))
        self.assertGreater(filled, 50)

    def test_a_join_carries_what_its_two_boards_carry(self):
        carried = 0
        for seed in range(120):
            one = mixed_board(1 + seed % 3, 1 + seed // 3 % 3, seed, "<>x")
            other = mixed_board(1 + seed % 2, 1 + seed // 2 % 2, seed + 1, "<>x")
            shared = ((0, 0), (one.rows, other.rows)) if seed % 3 else ()
            join = joined(one, other, shared)
            for at in range(4):
                loads = mixed_load(one, seed + at, 9), mixed_load(other, seed - at, 9)
                made = [0] * len(join)
                for there, load in zip(places(one, other, shared), loads):
                    for thread, number in zip(there, load):
                        made[thread] += number
                if is_carried(one, loads[0]) and is_carried(other, loads[1]):
                    carried += any(made)
                    self.assertIs(is_carried(join, tuple(made)), True)
        self.assertGreater(carried, 50)

    def test_carried_loads_put_together_are_carried(self):
        for seed, board in enumerate(some_boards()):
            one, other = mixed_load(board, seed, 5), mixed_load(board, seed + 50, 5)
            if is_carried(board, one) and is_carried(board, other):
                self.assertIsNone(barring_lot(board, tuple(map(sum, zip(one, other)))))


class Pictures(unittest.TestCase):
    def test_the_closed_lots_of_a_free_board_are_those_that_all_weaves_have(self):
        many = 0
        for picture, colours in [*list(small_pictures())[::9], *list(larger_pictures())[::5]]:
            if first_wrong(picture, colours) is None and len(free_cells(picture, colours)) <= 5:
                each = [closed_lots(Board(cells)) for cells in weaves(picture, colours)]
                common = [lot for lot in each[0] if all(lot in lots for lots in each)]
                self.assertEqual(closed_lots(free_board(picture, colours)), common)
                many += len(each) > 1
        self.assertGreater(many, 50)

    def test_a_weave_that_holds_carries_all_loads(self):
        many = 0
        for seed, (picture, colours) in enumerate([*list(small_pictures())[::5], *larger_pictures()]):
            cells = holding_weave(picture, colours)
            if cells is not None:
                many += 1
                board = Board(cells)
                for at in range(3):
                    self.assertIs(is_carried(board, mixed_load(board, seed + at, 20)), True)
        self.assertGreater(many, 50)


class Drawn(unittest.TestCase):
    def test_a_board_with_its_parts_drawn_together(self):
        for board in some_boards():
            other = bare(board)
            self.assertEqual(len(closed_lots(other)), len(closed_lots(board)))
            self.assertEqual(count_orders(other), count_orders(board))
            for angle in (0, 1, 4, 99):
                self.assertEqual(count_motions(other, angle), count_motions(board, angle))


class Texts(unittest.TestCase):
    def test_a_board_that_is_read_back_tells_the_same(self):
        for seed, board in enumerate(some_boards()):
            load, strengths = mixed_load(board, seed, 20), mixed_strengths(board, seed)
            again, load_again, strengths_again = read(write(board, load, strengths))
            self.assertEqual(is_held(again, strengths_again, load_again), is_held(board, strengths, load))


if __name__ == "__main__":
    unittest.main()
