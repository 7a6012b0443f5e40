"""Points 23, 24 and 26: closed lots between threads, generators, idle steps, and boards by their lots."""

import unittest
from itertools import combinations, product

from plain import (
    all_boards, all_lots, five_by_five, larger_boards, plain_closed_lots, plain_parts, plain_steps, threads_of,
    tiny_boards,
)

from wovenframes.boards import Board, steps
from wovenframes.errors import BadLines, BadLots, NotClosed
from wovenframes.lattices import (
    board_of, fewest_steps, generators, greatest_between, idle_steps, lean, least_between, lots_between, made_by,
)

EXAMPLE = Board((">x", ".<"))


def some_boards():
    return [*list(tiny_boards())[::2], *larger_boards(), *five_by_five()]


def without_step(board, step):
    """The board without one of its steps."""
    one, other = min(step), max(step) - board.rows
    left = {">": ".", "<": ".", "x": "<" if step[0] < step[1] else ">"}
    lines = [list(signs) for signs in board.cells]
    lines[one][other] = left[lines[one][other]]
    return Board(tuple("".join(line) for line in lines))


def plain_generators(board):
    """The closed lots that have a thread that no other closed lot in them has, as the words tell."""
    lots = plain_closed_lots(board)
    return [
        lot for lot in lots
        if any(all(thread not in other for other in lots if other != lot and set(other) <= set(lot)) for thread in lot)
    ]


def fewest_by_lots(rows, columns):
    """A dict: for the closed lots of each board of a size how many steps a board with them has at least."""
    fewest = {}
    for board in all_boards(rows, columns):
        lots = tuple(plain_closed_lots(board))
        fewest[lots] = min(fewest.get(lots, 99), len(plain_steps(board)))
    return fewest


class Between(unittest.TestCase):
    def test_against_all_closed_lots(self):
        for board in some_boards():
            lots = plain_closed_lots(board)
            for one, other in list(product(threads_of(board), repeat=2))[:: 1 if len(board) < 6 else 7]:
                wanted = [lot for lot in lots if one in lot and other not in lot]
                self.assertEqual(lots_between(board, one, other), wanted)
                if not wanted:
                    self.assertIsNone(least_between(board, one, other))
                    self.assertIsNone(greatest_between(board, one, other))
                    continue
                common = set(threads_of(board)).intersection(*wanted)
                self.assertEqual(least_between(board, one, other), tuple(sorted(common)))
                self.assertEqual(greatest_between(board, one, other), tuple(sorted(set().union(*wanted))))

    def test_none_with_a_thread_and_without_it(self):
        for board in larger_boards():
            for thread in threads_of(board):
                self.assertEqual(lots_between(board, thread, thread), [])
                self.assertIsNone(least_between(board, thread, thread))
                self.assertIsNone(greatest_between(board, thread, thread))

    def test_without_steps_and_with_all(self):
        self.assertEqual(len(lots_between(Board((".....",) * 5), 0, 9)), 256)
        self.assertEqual(least_between(Board((".....",) * 5), 4, 5), (4,))
        self.assertEqual(greatest_between(Board((".....",) * 5), 4, 5), (0, 1, 2, 3, 4, 6, 7, 8, 9))
        self.assertEqual(lots_between(Board(("xxxxx",) * 5), 0, 9), [])


class Generators(unittest.TestCase):
    def test_against_the_words(self):
        for board in [*list(tiny_boards())[::2], *list(larger_boards())[1::3], *five_by_five()]:
            if len(plain_closed_lots(board)) < 200:
                self.assertEqual(generators(board), plain_generators(board))

    def test_as_many_as_parts(self):
        for board in some_boards():
            self.assertEqual(len(generators(board)), len(plain_parts(board)))

    def test_without_steps_and_with_all(self):
        self.assertEqual(generators(Board((".....",) * 5)), [(thread,) for thread in range(10)])
        self.assertEqual(generators(Board(("xxxxx",) * 5)), [tuple(range(10))])
        self.assertEqual(generators(Board((">>",))), [(0,), (0, 1), (0, 2)])

    def test_made_by_the_fewest(self):
        for board in [*list(tiny_boards())[::2], *list(larger_boards())[::3]]:
            made = generators(board)
            if len(made) > 7:
                continue
            for lot in plain_closed_lots(board):
                fewest = [
                    list(some)
                    for size in range(len(made) + 1)
                    for some in combinations(made, size)
                    if set(lot) == set().union(*some)
                ]
                self.assertEqual(made_by(board, lot), fewest[0])
                # There are just one such fewest.
                self.assertEqual([some for some in fewest if len(some) == len(fewest[0])], fewest[:1])

    def test_larger_lots_are_made_of_what_is_in_no_other(self):
        for board in five_by_five():
            for lot in plain_closed_lots(board):
                some = made_by(board, lot)
                self.assertEqual(tuple(sorted(set().union(*some))), lot)
                self.assertEqual(some, sorted(some, key=lambda one: (len(one), one)))
                for at in range(len(some)):
                    self.assertNotEqual(tuple(sorted(set().union(*some[:at], *some[at + 1:]))), lot)

    def test_made_by_none_and_by_itself(self):
        for board in larger_boards():
            self.assertEqual(made_by(board, ()), [])
            for lot in generators(board):
                self.assertEqual(made_by(board, lot), [lot])

    def test_not_closed(self):
        for board in list(tiny_boards())[::5]:
            closed = plain_closed_lots(board)
            for lot in all_lots(board):
                if lot not in closed:
                    with self.assertRaises(NotClosed):
                        made_by(board, lot)


class Idle(unittest.TestCase):
    def test_against_the_closed_lots_without_the_step(self):
        for board in [*list(tiny_boards())[::2], *list(larger_boards())[::2]]:
            lots = plain_closed_lots(board)
            wanted = [step for step in plain_steps(board) if plain_closed_lots(without_step(board, step)) == lots]
            self.assertEqual(idle_steps(board), wanted)

    def test_lean_step_by_step(self):
        for board in [*list(tiny_boards())[::2], *list(larger_boards())[::2], *five_by_five()]:
            left, lots = board, plain_closed_lots(board)
            for step in plain_steps(board):
                if plain_closed_lots(without_step(left, step)) == lots:
                    left = without_step(left, step)
            self.assertEqual(lean(board), left)
            self.assertEqual(idle_steps(left), [])

    def test_lean_has_no_fewer_steps_than_the_fewest(self):
        for board in [*larger_boards(), *five_by_five()]:
            many = fewest_steps(board.rows, board.columns, plain_closed_lots(board))
            self.assertGreaterEqual(len(steps(lean(board))), many)

    def test_none_idle(self):
        for cells in ((".",), ("x",), (">",), ("<<<<<",), ("x", "x", "x"), (".....",) * 5):
            self.assertEqual(idle_steps(Board(cells)), [])
            self.assertEqual(lean(Board(cells)).cells, cells)

    def test_each_by_itself_but_not_all(self):
        self.assertEqual(idle_steps(Board(("xx", "xx"))), [(0, 2), (0, 3), (1, 2), (1, 3), (2, 0), (2, 1), (3, 0), (3, 1)])
        self.assertEqual(idle_steps(Board((">x", "x<"))), [(0, 2), (3, 1)])
        self.assertEqual(lean(Board((">x", "x<"))).cells, (".x", "x<"))
        self.assertEqual(idle_steps(Board((">x", "xx"))), [(0, 2), (0, 3), (1, 2), (3, 1)])
        self.assertEqual(lean(Board((">x", "xx"))).cells, (".x", "xx"))


class BoardOf(unittest.TestCase):
    def test_against_all_boards_of_a_size(self):
        for rows, columns in ((1, 1), (1, 2), (2, 1), (1, 3), (3, 1), (2, 2), (1, 4), (4, 1), (2, 3), (3, 2)):
            for lots, many in fewest_by_lots(rows, columns).items():
                board = board_of(rows, columns, list(lots))
                self.assertEqual((board.rows, board.columns), (rows, columns))
                self.assertEqual(tuple(plain_closed_lots(board)), lots)
                self.assertEqual(len(plain_steps(board)), many)
                self.assertEqual(fewest_steps(rows, columns, lots), many)

    def test_against_all_lists_of_lots(self):
        for rows, columns in ((1, 1), (1, 2), (2, 1)):
            able = fewest_by_lots(rows, columns)
            lots = all_lots(Board(("." * columns,) * rows))
            for size in range(len(lots) + 1):
                for some in combinations(lots, size):
                    self.assertEqual(fewest_steps(rows, columns, some), able.get(some))
                    self.assertEqual(board_of(rows, columns, some) is None, some not in able)

    def test_lists_that_lack_a_lot_or_have_one_more(self):
        for rows, columns in ((2, 2), (3, 1)):
            able = fewest_by_lots(rows, columns)
            for lots in list(able)[::3]:
                for other in all_lots(Board(("." * columns,) * rows)):
                    some = tuple(lot for lot in lots if lot != other)
                    if some == lots:
                        some = tuple(sorted([*lots, other], key=lambda lot: (len(lot), lot)))
                    self.assertEqual(fewest_steps(rows, columns, list(some)), able.get(some))
                    self.assertEqual(board_of(rows, columns, list(some)) is None, some not in able)

    def test_in_any_order_in_a_list_or_a_tuple(self):
        for board in larger_boards():
            lots = plain_closed_lots(board)
            turned_about, mixed = lots[::-1], lots[1::2] + lots[::2]
            for some in (turned_about, tuple(mixed), tuple(lots)):
                made = board_of(board.rows, board.columns, some)
                self.assertEqual(plain_closed_lots(made), lots)
                self.assertEqual(fewest_steps(board.rows, board.columns, some), len(plain_steps(made)))
                self.assertLessEqual(len(plain_steps(made)), len(plain_steps(board)))

    def test_larger_boards_by_parts_and_those_next_to_each_other(self):
        for board in [*larger_boards(), *five_by_five()]:
            found = plain_parts(board)
            lots = plain_closed_lots(board)
            many = 0
            for part in found:
                above = [thread for thread in part if thread < board.rows]
                many += 2 * max(len(above), len(part) - len(above)) if len(part) > 1 else 0
            for one, other in product(found, repeat=2):
                # One leads to another, with no part between, just if some lot has both, and lacks one of them alone.
                ahead = [part for part in found if part != other and all(part[0] in lot for lot in lots if other[0] in lot)]
                behind = [
                    part for part in ahead
                    if not any(mid != part and all(part[0] in lot for lot in lots if mid[0] in lot) for mid in ahead)
                ]
                many += 1 if one in behind else 0
            self.assertEqual(fewest_steps(board.rows, board.columns, lots), many)

    def test_one_part_of_each_size(self):
        for rows, columns in product(range(1, 6), repeat=2):
            lots = [(), tuple(range(rows + columns))]
            self.assertEqual(fewest_steps(rows, columns, lots), 2 * max(rows, columns))
            self.assertEqual(plain_closed_lots(board_of(rows, columns, lots)), lots)

    def test_no_lots_and_all_lots(self):
        for rows, columns in product(range(1, 6), repeat=2):
            self.assertIsNone(board_of(rows, columns, []))
            self.assertIsNone(fewest_steps(rows, columns, ()))
            self.assertIsNone(board_of(rows, columns, [()]))
            self.assertIsNone(board_of(rows, columns, [tuple(range(rows + columns))]))
            board = Board(("." * columns,) * rows)
            self.assertEqual(board_of(rows, columns, all_lots(board)), board)

    def test_steps_lead_between_rows_and_columns_alone(self):
        # Of two rows one would have to lead to the other with nothing between them.
        self.assertIsNone(fewest_steps(2, 1, [(), (0,), (0, 1), (2,), (0, 2), (0, 1, 2)]))
        self.assertIsNone(fewest_steps(1, 2, [(), (1,), (1, 2), (0,), (0, 1), (0, 1, 2)]))
        self.assertIsNone(fewest_steps(2, 1, [(), (2,), (0, 1), (0, 1, 2)]))
        self.assertEqual(fewest_steps(2, 1, [(), (2,), (0, 2), (1, 2), (0, 1, 2)]), 2)
        self.assertEqual(fewest_steps(2, 1, [(), (0,), (0, 2), (0, 1, 2)]), 2)

    def test_bad_lines(self):
        for value in (0, 6, -1, True, None, "1", (1,), [1], {1: 1}, 10 ** 30):
            for call in (board_of, fewest_steps):
                with self.assertRaises(BadLines):
                    call(value, 1, [])
                with self.assertRaises(BadLines):
                    call(1, value, [])
                with self.assertRaises(BadLines):
                    call(5, value, [0])

    def test_bad_lots(self):
        for lots, index in (
            (None, None), (0, None), ("", None), ({}, None), ({(): 1}, None), (EXAMPLE, None), ([0], 0), ([(), [0]], 1),
            ([(), (0,), (4,)], 2), ([(0, 0)], 0), ([(1, 0)], 0), ([(), (0,), ()], 2), ([(0,), (0,), 7], 1), ((True,), 0),
            (((True,),), 0), (((), (False, 1)), 1), ([(), (0, 1, 2, 3), (-1,), None], 2), ([None], 0), ("ab", None),
            (((),) * 2, 1), ([(), ("0",)], 1), ([(), ((0,),)], 1), ([(), ([],)], 1), ([EXAMPLE], 0), ([{}], 0),
        ):
            for call in (board_of, fewest_steps):
                with self.subTest(lots=lots), self.assertRaises(BadLots) as caught:
                    call(2, 2, lots)
                self.assertEqual(caught.exception.index, index)

    def test_the_threads_of_the_size_that_is_told(self):
        self.assertEqual(fewest_steps(1, 1, [(), (0,), (1,), (0, 1)]), 0)
        with self.assertRaises(BadLots) as caught:
            board_of(1, 1, [(), (0,), (1,), (0, 2)])
        self.assertEqual(caught.exception.index, 3)


if __name__ == "__main__":
    unittest.main()
