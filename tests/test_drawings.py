"""Points 38 and 39: threads drawn together, threads exchanged, pieces, and boards parted."""

import unittest
from itertools import combinations, permutations, product

from plain import (
    all_boards, all_lots, five_by_five, larger_boards, mixed_board, plain_closed_lots, plain_parts, plain_steps,
    threads_of, tiny_boards,
)
from plainpictures import plain_pieces

from wovenframes.boards import Board, flipped
from wovenframes.drawings import alike, bare, drawn, drawn_to, exchanged, lots_with, parted, pieces
from wovenframes.errors import BadColumn, BadThreads, EmptyLot
from wovenframes.motions import count_motions
from wovenframes.orders import count_orders

EXAMPLE = Board((">x", ".<"))


def some_boards():
    return [*list(tiny_boards())[::5], *list(larger_boards())[::2], *five_by_five()]


def some_lots(board):
    lots = all_lots(board)[1:]
    return lots[:: 1 + len(lots) // 40] + lots[-1:]


def groups_of(board, lot):
    """The lists of threads that become one thread each, in the order of the drawn board: its rows, then its columns."""
    rows = [thread for thread in lot if thread < board.rows]
    columns = [thread for thread in lot if thread >= board.rows]
    found = []
    for thread in threads_of(board):
        together = rows if thread in rows else columns if thread in columns else [thread]
        if together not in found:
            found.append(together)
    return found


def plain_drawn(board, groups, lot):
    """The cells between groups of threads: each leads as all cells between the two groups do, together."""
    pairs = set(plain_steps(board))
    rows = [group for group in groups if group[0] < board.rows]
    columns = [group for group in groups if group[0] >= board.rows]
    lines = []
    for above in rows:
        line = ""
        for across in columns:
            ahead = any((one, other) in pairs for one in above for other in across)
            back = any((other, one) in pairs for one in above for other in across)
            if above[0] in lot and across[0] in lot:
                ahead = back = True
            line += "x" if ahead and back else ">" if ahead else "<" if back else "."
        lines.append(line)
    return tuple(lines)


def orders_of(board):
    return [
        above + across
        for above in permutations(range(board.rows))
        for across in permutations(range(board.rows, len(board)))
    ]


def plain_exchanged(board, order):
    """The board that has between two places the steps between the threads that stand there."""
    pairs = plain_steps(board)
    lines = []
    for row in range(board.rows):
        line = ""
        for column in range(board.columns):
            one, other = order[row], order[board.rows + column]
            line += {(False, False): ".", (True, False): ">", (False, True): "<", (True, True): "x"}[
                (one, other) in pairs, (other, one) in pairs
            ]
        lines.append(line)
    return Board(tuple(lines))


class Drawn(unittest.TestCase):
    def test_against_the_cells_of_which_each_is_made(self):
        for board in some_boards():
            for lot in some_lots(board):
                groups = groups_of(board, lot)
                self.assertEqual(drawn(board, lot).cells, plain_drawn(board, groups, lot))
                wanted = tuple(
                    next(at for at, group in enumerate(groups) if thread in group) for thread in threads_of(board)
                )
                self.assertEqual(drawn_to(board, lot), wanted)

    def test_lots_with(self):
        for board in some_boards():
            closed = plain_closed_lots(board)
            for lot in some_lots(board)[::2]:
                wanted = [other for other in closed if len(set(other) & set(lot)) in (0, len(lot))]
                self.assertEqual(lots_with(board, lot), wanted)

    def test_just_these_become_closed_lots_of_the_drawn_board(self):
        for board in some_boards():
            for lot in some_lots(board)[::3]:
                there = drawn_to(board, lot)
                made = [tuple(sorted({there[thread] for thread in other})) for other in lots_with(board, lot)]
                self.assertEqual(len(made), len(set(made)))
                self.assertEqual(sorted(made, key=lambda one: (len(one), one)), plain_closed_lots(drawn(board, lot)))

    def test_a_lot_of_one_thread_and_of_all(self):
        for board in larger_boards():
            for thread in threads_of(board):
                self.assertEqual(drawn(board, (thread,)), board)
                self.assertEqual(drawn_to(board, (thread,)), tuple(threads_of(board)))
            self.assertEqual(drawn(board, tuple(threads_of(board))).cells, ("x",))
            self.assertEqual(drawn_to(board, tuple(threads_of(board))), (0,) * board.rows + (1,) * board.columns)

    def test_one_row_and_one_column_are_knotted(self):
        self.assertEqual(drawn(Board((".",)), (0, 1)).cells, ("x",))
        self.assertEqual(drawn(Board(("><", "<>")), (0, 3)).cells, (">x", "<>"))
        self.assertEqual(drawn(Board(("..", "..")), (0, 1)).cells, ("..",))
        self.assertEqual(drawn(Board((">.", "<.")), (0, 1)).cells, ("x.",))
        self.assertEqual(drawn(Board(("...", "...", "...")), (0, 2, 4, 5)).cells, (".x", ".."))

    def test_the_place_of_the_least_of_them(self):
        board = Board((">....", "<....", "x....", ".>...", ".<..."))
        self.assertEqual(drawn(board, (1, 4)).cells, (">....", "<<...", "x....", ".>..."))
        self.assertEqual(drawn_to(board, (1, 4)), (0, 1, 2, 3, 1, 4, 5, 6, 7, 8))
        self.assertEqual(drawn_to(board, (0, 2, 6, 9)), (0, 1, 0, 2, 3, 4, 5, 6, 7, 5))

    def test_the_empty_lot(self):
        for board in (EXAMPLE, Board(("xxxxx",) * 5), Board((".",))):
            for call in (drawn, drawn_to, lots_with):
                with self.assertRaises(EmptyLot):
                    call(board, ())


class Bare(unittest.TestCase):
    def test_each_part_becomes_one_row_and_one_column(self):
        for board in [*list(tiny_boards())[::3], *larger_boards(), *five_by_five()]:
            groups, lots = [], plain_parts(board)
            for thread in threads_of(board):
                part = next(lot for lot in lots if thread in lot)
                kind = [other for other in part if (other < board.rows) == (thread < board.rows)]
                if kind not in groups:
                    groups.append(kind)
            pairs = set(plain_steps(board))
            lines = []
            for above in [group for group in groups if group[0] < board.rows]:
                line = ""
                for across in [group for group in groups if group[0] >= board.rows]:
                    together = any(above[0] in lot and across[0] in lot for lot in lots)
                    ahead = together or any((one, other) in pairs for one in above for other in across)
                    back = together or any((other, one) in pairs for one in above for other in across)
                    line += "x" if ahead and back else ">" if ahead else "<" if back else "."
                lines.append(line)
            self.assertEqual(bare(board).cells, tuple(lines))

    def test_as_many_closed_lots_motions_and_lift_orders(self):
        for board in some_boards():
            less = bare(board)
            self.assertEqual(len(plain_closed_lots(less)), len(plain_closed_lots(board)))
            self.assertEqual(count_motions(less, 7), count_motions(board, 7))
            self.assertEqual(count_orders(less), count_orders(board))

    def test_nothing_to_draw_together_and_all(self):
        self.assertEqual(bare(Board(("xxxxx",) * 5)).cells, ("x",))
        self.assertEqual(bare(Board((".....",) * 5)).cells, (".....",) * 5)
        self.assertEqual(bare(Board(("><", "<>"))).cells, ("x",))
        self.assertEqual(bare(EXAMPLE), EXAMPLE)
        self.assertEqual(bare(Board(("xx..", "..xx", ">>.."))).cells, ("x.", ".x", ">."))

    def test_two_parts_one_behind_the_other(self):
        board = Board(("xx>..", "xx...", "..<xx", "...xx", ".>..."))
        self.assertEqual(plain_parts(board), [(0, 1, 5, 6), (2, 3, 8, 9), (4,), (7,)])
        self.assertEqual(bare(board).cells, ("x>.", ".<x", ">.."))


class Exchanged(unittest.TestCase):
    def test_against_the_steps_between_the_places(self):
        for board in some_boards():
            orders = orders_of(board)
            for order in orders[:: 1 + len(orders) // 20] + orders[-1:]:
                self.assertEqual(exchanged(board, order), plain_exchanged(board, order))

    def test_in_the_order_as_it_is(self):
        for board in larger_boards():
            self.assertEqual(exchanged(board, tuple(threads_of(board))), board)

    def test_an_order_and_not_its_way_back(self):
        board = Board((">", "<", "x"))
        self.assertEqual(exchanged(board, (1, 2, 0, 3)).cells, ("<", "x", ">"))
        self.assertEqual(exchanged(board, (2, 0, 1, 3)).cells, ("x", ">", "<"))

    def test_bad_orders(self):
        for order in (None, True, 0, "", "0123", [], [0, 1, 2, 3], {}, (), (0, 1, 2), (0, 1, 2, 3, 4), (0, 0, 2, 3),
                      (0, 1, 2, 2), (2, 3, 0, 1), (0, 2, 1, 3), (0, 1, 2, 4), (-1, 0, 2, 3), (False, 1, 2, 3),
                      (0, True, 2, 3), (0, 1, 2, None), (0, 1, 2, "3"), ((0, 1), (2, 3)), (0, 1, 2, (3,)), (0, 1, 2, [3]),
                      (0, 1, 2, {}), (3, 2, 1, 0), EXAMPLE, (0, 1, 2, EXAMPLE), (10 ** 30, 1, 2, 3)):
            with self.subTest(order=order), self.assertRaises(BadThreads):
                exchanged(EXAMPLE, order)
        for order in product(range(-1, 5), repeat=4):
            if order in orders_of(EXAMPLE):
                self.assertIsInstance(exchanged(EXAMPLE, order), Board)
            else:
                with self.assertRaises(BadThreads):
                    exchanged(EXAMPLE, order)


class Alike(unittest.TestCase):
    def test_against_all_orders(self):
        boards = list(all_boards(2, 2))
        for at, board in enumerate(boards[::5]):
            for other in boards[at % 4::4]:
                self.check(board, other)
        for at, board in enumerate(list(all_boards(1, 3))[::3]):
            for other in list(all_boards(1, 3))[at % 3::3]:
                self.check(board, other)

    def check(self, board, other):
        able = [order for order in orders_of(board) if plain_exchanged(board, order) == other]
        self.assertEqual(alike(board, other), able[0] if able else None)

    def test_larger_boards_exchanged(self):
        for seed, (rows, columns) in enumerate(((3, 3), (2, 4), (4, 2), (3, 4), (4, 3), (1, 5), (5, 1))):
            for signs in ("<>", "..x", "<>.x", "."):
                board = mixed_board(rows, columns, seed, signs)
                orders = orders_of(board)
                for order in orders[:: 1 + len(orders) // 4]:
                    self.check(board, plain_exchanged(board, order))
                self.check(board, mixed_board(rows, columns, seed + 9, signs))

    def test_five_by_five(self):
        for at, board in enumerate([*five_by_five(), Board(("xxxxx",) * 5), Board(("..>..",) * 5)]):
            order = orders_of(board)[at * 1999 + 7]
            other = plain_exchanged(board, order)
            found = alike(board, other)
            self.assertEqual(plain_exchanged(board, found), other)
            self.assertLessEqual(found, order)
            one_more = Board(tuple(signs.replace("<", "x") for signs in other.cells))
            self.assertEqual(alike(board, one_more) is None, one_more != other)

    def test_itself_by_the_least_order(self):
        for board in larger_boards():
            self.assertEqual(alike(board, board), tuple(threads_of(board)))

    def test_boards_of_other_sizes(self):
        for one, other in combinations(larger_boards(), 2):
            if (one.rows, one.columns) != (other.rows, other.columns) and one.columns + other.rows < 5:
                self.assertIsNone(alike(one, other))
                self.assertIsNone(alike(other, one))
        self.assertIsNone(alike(Board((">>",)), flipped(Board((">>",)))))


class Pieces(unittest.TestCase):
    def test_against_lots_put_together(self):
        for board in [*tiny_boards(), *larger_boards(), *five_by_five()]:
            self.assertEqual(pieces(board), plain_pieces(board.cells))

    def test_threads_that_touch_nothing(self):
        self.assertEqual(pieces(Board((".....",) * 5)), [(thread,) for thread in range(10)])
        self.assertEqual(pieces(Board((".x", "..", ".<"))), [(0, 2, 4), (1,), (3,)])
        self.assertEqual(pieces(Board(("xxxxx",) * 5)), [tuple(range(10))])


class Parted(unittest.TestCase):
    def test_cut_behind_each_column_but_the_last(self):
        for board in larger_boards():
            for many in range(1, board.columns):
                first, second = parted(board, many)
                self.assertEqual((first.columns, second.columns), (many, board.columns - many))
                self.assertEqual(tuple(left + right for left, right in zip(first.cells, second.cells)), board.cells)

    def test_bad_columns(self):
        for board in larger_boards():
            for many in (0, -1, board.columns, board.columns + 1, True, None, "1", (1,), [1], {}, 10 ** 30, board):
                with self.subTest(many=many), self.assertRaises(BadColumn):
                    parted(board, many)


if __name__ == "__main__":
    unittest.main()
