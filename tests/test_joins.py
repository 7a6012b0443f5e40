"""Points 35 to 37: boards joined at shared threads, the lots that agree, and the loads that are split."""

import unittest
from itertools import combinations, permutations, product

from plain import SIGNS, all_boards, larger_boards, mixed_board, plain_closed_lots, plain_steps, threads_of
from plainloads import all_loads, mixed_load, mixed_numbers, noughts, plain_barring, plain_carries
from plainpictures import plain_holds

from wovenframes.boards import Board
from wovenframes.errors import BadJoin, BadLoad, BadShared
from wovenframes.joins import (
    agreeing_lots, beneath, beside, first_apart, joined, places, shows_split, split_load,
)

ONE, OTHER = Board((">", "<")), Board(("<>",))
SHARED = ((0, 0), (2, 1))


def all_shared(one, other):
    """All shared threads of two boards: all ways to pair some threads of one kind."""

    def pairings(some, others):
        for many in range(min(len(some), len(others)) + 1):
            for first in combinations(some, many):
                for second in permutations(others, many):
                    yield tuple(zip(first, second))

    sides = (range(one.rows), range(one.rows, len(one))), (range(other.rows), range(other.rows, len(other)))
    return [
        above + across
        for above in pairings(sides[0][0], sides[1][0])
        for across in pairings(sides[0][1], sides[1][1])
    ]


def mixed_pairs(some, others, seed):
    """Pairs of as many of some threads as make room for all in five lines, or more; which ones looks thrown."""
    least = max(0, len(some) + len(others) - 5)
    many = mixed_numbers(seed, 1, least, min(len(some), len(others)))[0]
    thrown = mixed_numbers(seed + 1, 10, 0, 10 ** 4)
    first = sorted(sorted(some, key=lambda thread: thrown[thread])[:many])
    second = sorted(others, key=lambda thread: thrown[-1 - thread])[:many]
    return tuple(zip(first, second))


def mixed_shared(one, other, seed):
    above = mixed_pairs(range(one.rows), range(other.rows), seed)
    across = mixed_pairs(range(one.rows, len(one)), range(other.rows, len(other)), seed + 50)
    return above + across


def some_joins():
    """Pairs of boards with shared threads, of small boards and of larger ones."""
    for at, (one, other) in enumerate(product(((1, 1), (1, 2), (2, 1), (2, 2)), repeat=2)):
        first, second = mixed_board(*one, at + 3), mixed_board(*other, at + 40, "<>x.")
        for shared in all_shared(first, second):
            yield first, second, shared
    for at, (one, other) in enumerate(product(((3, 2), (2, 3), (3, 3), (4, 2), (1, 5), (5, 5)), repeat=2)):
        for seed, signs in enumerate((SIGNS, "<>x", "..<>", "xx<", "<>>", "<>")):
            first, second = mixed_board(*one, at + seed, signs), mixed_board(*other, at + seed + 30, signs)
            yield first, second, mixed_shared(first, second, at + 100 * seed)


def plain_places(one, other, shared):
    """The threads of the join by name, in their order, and where the threads of both boards are among them."""
    names = dict((there, here) for here, there in shared)
    rows = [("one", row) for row in range(one.rows)]
    rows += [("other", row) for row in range(other.rows) if row not in names]
    columns = [("one", thread) for thread in range(one.rows, len(one))]
    columns += [("other", thread) for thread in range(other.rows, len(other)) if thread not in names]
    order = rows + columns
    first = tuple(order.index(("one", thread)) for thread in range(len(one)))
    second = tuple(
        order.index(("one", names[thread]) if thread in names else ("other", thread)) for thread in range(len(other))
    )
    return len(rows), len(columns), first, second


def plain_join(one, other, shared):
    """The cells of the join, by putting the signs of both boards one over the other."""
    rows, columns, first, second = plain_places(one, other, shared)
    lines = [["."] * columns for _ in range(rows)]
    for board, there in ((one, first), (other, second)):
        for row, column in product(range(board.rows), range(board.columns)):
            at, to = there[row], there[board.rows + column] - rows
            together = {lines[at][to], board.cells[row][column]} - {"."}
            lines[at][to] = "x" if len(together) > 1 else together.pop() if together else "."
    return tuple("".join(line) for line in lines)


class Joined(unittest.TestCase):
    def test_against_signs_put_over_one_another(self):
        sizes = set()
        for one, other, shared in some_joins():
            board = joined(one, other, shared)
            rows, columns, first, second = plain_places(one, other, shared)
            self.assertEqual(board.cells, plain_join(one, other, shared))
            self.assertEqual((board.rows, board.columns), (rows, columns))
            self.assertEqual(places(one, other, shared), (first, second))
            sizes.add((rows, columns))
        self.assertGreater(len(sizes), 12)
        self.assertIn((5, 5), sizes)

    def test_each_two_signs_in_one_cell(self):
        wanted = {frozenset(">"): ">", frozenset("<"): "<", frozenset("."): ".", frozenset("x"): "x"}
        for sign, other in product(SIGNS, repeat=2):
            signs = frozenset((sign, other)) - {"."} or frozenset(".")
            board = joined(Board((sign,)), Board((other,)), ((0, 0), (1, 1)))
            self.assertEqual(board.cells, (wanted.get(signs, "x"),))

    def test_nothing_shared(self):
        board = joined(ONE, OTHER, ())
        self.assertEqual(board.cells, (">..", "<..", ".<>"))
        self.assertEqual(places(ONE, OTHER, ()), ((0, 1, 3), (2, 4, 5)))

    def test_all_shared_with_itself_and_with_the_empty_board(self):
        for board in larger_boards():
            shared = tuple((thread, thread) for thread in threads_of(board))
            self.assertEqual(joined(board, board, shared), board)
            self.assertEqual(places(board, board, shared), (tuple(threads_of(board)),) * 2)
            empty = Board(("." * board.columns,) * board.rows)
            self.assertEqual(joined(board, empty, shared), board)
            self.assertEqual(joined(empty, board, shared), board)

    def test_threads_shared_across_their_order(self):
        one = Board((">.", ".<"))
        shared = ((0, 1), (1, 0), (2, 3), (3, 2))
        self.assertEqual(joined(one, one, shared).cells, ("x.", ".x"))
        self.assertEqual(places(one, one, shared), ((0, 1, 2, 3), (1, 0, 3, 2)))

    def test_beside_and_beneath(self):
        for at, one in enumerate(larger_boards()):
            for columns in range(1, 7 - one.columns):
                other = mixed_board(one.rows, columns, at)
                if one.columns + columns <= 5:
                    wanted = tuple(left + right for left, right in zip(one.cells, other.cells))
                    self.assertEqual(beside(one, other).cells, wanted)
                else:
                    with self.assertRaises(BadJoin):
                        beside(one, other)
            for rows in range(1, 7 - one.rows):
                other = mixed_board(rows, one.columns, at)
                if one.rows + rows <= 5:
                    self.assertEqual(beneath(one, other).cells, one.cells + other.cells)
                else:
                    with self.assertRaises(BadJoin):
                        beneath(one, other)

    def test_not_as_many_rows_or_columns(self):
        for one, other in product([mixed_board(rows, columns, 5) for rows in range(1, 4) for columns in (1, 2)], repeat=2):
            if one.rows != other.rows:
                with self.assertRaises(BadJoin):
                    beside(one, other)
            if one.columns != other.columns:
                with self.assertRaises(BadJoin):
                    beneath(one, other)

    def test_too_many_rows_or_columns(self):
        for call in (joined, places, agreeing_lots, first_apart):
            for one, other, shared in (
                ((".",) * 5, (".",), ()), ((".....",), (".",), ()), ((".",) * 3, (".",) * 3, ((3, 3),)),
                (("...",), ("...",), ((0, 0),)), (("...", "..."), ("....",), ((0, 0), (2, 1))),
                ((".....",) * 5, (".",), ((0, 0),)), ((".....",) * 5, (".",), ((5, 1),)),
            ):
                with self.assertRaises(BadJoin):
                    call(Board(one), Board(other), shared)
            call(Board((".",) * 3), Board((".",) * 3), ((0, 1), (3, 3)))
            call(Board((".....",) * 5), Board((".",)), ((4, 0), (9, 1)))

    def test_bad_shared(self):
        for shared in (
            None, True, 0, "", "ab", [], [(0, 0), (2, 1)], {}, {0: 0}, (0, 0), ((0, 0), [2, 1]), ((0,),), ((0, 0, 0),),
            ((2, 1), (0, 0)), ((0, 0), (0, 0)), ((0, 0), (1, 0)), ((0, 0), (2, 1), (2, 2)), ((2, 1), (2, 2)), ((0, 1),),
            ((2, 0),), ((3, 1),), ((0, 3),), ((-1, 0),), ((0, -1),), ((True, 0),), ((0, False),), ((0, None),),
            (("0", 0),), (((0,), 0),), ([0, 0],), (None,), ((0, 0), None), (((0, 0), (2, 1)),), ONE, (ONE, OTHER),
            ((1, 0), (0, 0)), ((10 ** 30, 0),),
        ):
            for call in (joined, places, agreeing_lots, first_apart):
                with self.subTest(shared=shared), self.assertRaises(BadShared):
                    call(ONE, OTHER, shared)
            for call, rest in ((split_load, ()), (shows_split, (None,))):
                with self.assertRaises(BadShared):
                    call(ONE, OTHER, shared, (2, -1, 0, -1), *rest)

    def test_bad_shared_is_told_ahead_of_a_bad_join(self):
        for shared in (None, ((0, 0), (0, 0)), ((5, 0),)):
            with self.assertRaises(BadShared):
                joined(Board((".....",) * 5), Board((".",)), shared)


class Lots(unittest.TestCase):
    def test_against_all_pairs_of_closed_lots(self):
        for one, other, shared in some_joins():
            first, second = plain_closed_lots(one), plain_closed_lots(other)
            if len(first) * len(second) > 3000:
                continue
            here, there = places(one, other, shared)
            wanted = [
                (lot, more) for lot, more in product(first, second)
                if all((thread in lot) == (partner in more) for thread, partner in shared)
            ]

            def in_the_join(pair):
                together = {here[thread] for thread in pair[0]} | {there[thread] for thread in pair[1]}
                return (len(together), sorted(together))

            wanted.sort(key=in_the_join)
            self.assertEqual(agreeing_lots(one, other, shared), wanted)
            able = [pair for pair in wanted if 0 < in_the_join(pair)[0] < len(joined(one, other, shared))]
            self.assertEqual(first_apart(one, other, shared), able[0] if able else None)

    def test_these_are_the_closed_lots_of_the_join(self):
        for one, other, shared in list(some_joins())[::3]:
            here, there = places(one, other, shared)
            together = [
                tuple(sorted({here[thread] for thread in lot} | {there[thread] for thread in more}))
                for lot, more in agreeing_lots(one, other, shared)
            ]
            self.assertEqual(together, plain_closed_lots(joined(one, other, shared)))

    def test_none_apart_just_if_the_join_holds(self):
        seen = {True: 0, False: 0}
        for one, other, shared in some_joins():
            does = plain_holds(joined(one, other, shared))
            self.assertEqual(first_apart(one, other, shared) is None, does)
            seen[does] += 1
        self.assertGreater(min(seen.values()), 20)

    def test_an_empty_lot_of_one_board_alone(self):
        self.assertEqual(first_apart(ONE, OTHER, ()), ((0,), ()))
        self.assertEqual(first_apart(ONE, Board(("x",)), ((0, 0),)), ((0,), (0, 1)))
        self.assertEqual(first_apart(Board(("x",)), Board(("x",)), ()), ((0, 1), ()))
        self.assertEqual(first_apart(Board(("x",)), Board((".",)), ()), ((), (0,)))
        self.assertIsNone(first_apart(Board(("x",)), Board(("x",)), ((0, 0),)))


class Splits(unittest.TestCase):
    def check(self, one, other, shared, load):
        board = joined(one, other, shared)
        split = split_load(one, other, shared, load)
        self.assertEqual(split is not None, plain_barring(board, load) is None)
        self.assertIs(shows_split(one, other, shared, load, split), split is not None)
        if split is not None:
            self.check_split(one, other, shared, load, split)
        return split is not None

    def check_split(self, one, other, shared, load, split):
        self.assertIsInstance(split, tuple)
        made = [0] * len(load)
        for board, there, part in zip((one, other), places(one, other, shared), split):
            self.assertEqual((len(part), sum(part)), (len(board), 0))
            self.assertTrue(plain_carries(board, part))
            for thread, number in zip(there, part):
                made[thread] += number
        self.assertEqual(tuple(made), load)

    def test_there_is_one_just_if_the_join_carries_the_load(self):
        seen = {True: 0, False: 0}
        for at, (one, other, shared) in enumerate(some_joins()):
            board = joined(one, other, shared)
            for load in (mixed_load(board, at, 20), mixed_load(board, at + 7, 2), noughts(board)):
                seen[self.check(one, other, shared, load)] += 1
        self.assertGreater(min(seen.values()), 50)

    def test_all_small_loads(self):
        for one, other in product(list(all_boards(1, 2))[::3], list(all_boards(2, 1))[::3]):
            for shared in (((0, 1), (1, 2)), ((0, 0),), ((2, 2),)):
                for load in all_loads(joined(one, other, shared), 1)[::3]:
                    self.check(one, other, shared, load)

    def test_shows_split_against_all_pairs_of_loads(self):
        for one, other, shared in ((Board(("x>",)), Board((">",)), ((0, 0),)), (Board((">",)), Board(("x",)), ((0, 0), (1, 1))),
                                   (ONE, Board((">",)), ((1, 0), (2, 1)))):
            board = joined(one, other, shared)
            here, there = places(one, other, shared)
            loads = [
                [part for part in product(range(-2, 3), repeat=len(side)) if sum(part) == 0] for side in (one, other)
            ]
            for load in all_loads(board, 1)[::2]:
                for first, second in product(*loads):
                    made = [0] * len(board)
                    for thread, number in [*zip(here, first), *zip(there, second)]:
                        made[thread] += number
                    wanted = tuple(made) == load and plain_carries(one, first) and plain_carries(other, second)
                    self.assertIs(shows_split(one, other, shared, load, (first, second)), wanted)

    def test_of_any_size(self):
        far = 10 ** 30
        one = other = Board(("x",))
        shared = ((0, 0), (1, 1))
        self.assertIs(shows_split(one, other, shared, (3, -3), ((far, -far), (3 - far, far - 3))), True)
        self.assertIs(shows_split(one, other, shared, (3, -3), ((far, -far), (2 - far, far - 2))), False)
        self.assertIs(shows_split(Board((">",)), other, shared, (3, -3), ((-far, far), (3 + far, -far - 3))), False)
        self.assertIs(shows_split(Board((">",)), other, shared, (3, -3), ((21, -21), (-18, 18))), True)

    def test_other_values_are_no_split(self):
        load, good = (2, -1, 0, -1), ((1, -1, 0), (1, 0, -1))
        self.assertIs(shows_split(ONE, OTHER, SHARED, load, good), True)
        for value in (None, True, 0, "", [], list(good), {}, (), good[:1], good + ((),), (good[0], None), (good[0], [1, 0, -1]),
                      (list(good[0]), good[1]), (good[0], (1, 0)), (good[0], (1, 0, -1, 0)), (good[0], (True, 0, -1)),
                      (good[0], (1, False, -1)), (good[0], (1, 0, None)), (good[0], ("1", 0, -1)), (good[1], good[0]),
                      ((1, -1, 1), (1, 0, -1)), ((2, -1, -1), (0, 0, 0)), ((1, -1, 0), (1, -1, 0)), (good[0], ((1,), 0, -1)),
                      ((0, -1, 0), (2, 0, -1)), ((1, -1, 0), (0, 0, 0)), (good, good), ONE, (ONE, OTHER)):
            with self.subTest(value=value):
                self.assertIs(shows_split(ONE, OTHER, SHARED, load, value), False)

    def test_a_load_that_is_not_carried_has_no_split(self):
        for value in (((-1, 0, 1), (0, 0, 0)), ((0, 0, 0), (-1, 1, 0)), ((-1, 0, 1), (0, 1, -1)), None):
            self.assertIs(shows_split(ONE, OTHER, SHARED, (-1, 0, 0, 1), value), False)

    def test_bad_loads_of_the_join(self):
        for load in (None, (2, -1, -1), (2, -1, 0, -1, 0), (1, 0, 0, 0), (21, -21, 0, 0), [2, -1, 0, -1], (True, -1, 0, 0), 0):
            with self.assertRaises(BadLoad):
                split_load(ONE, OTHER, SHARED, load)
            with self.assertRaises(BadLoad):
                shows_split(ONE, OTHER, SHARED, load, ((1, -1, 0), (1, 0, -1)))
            # The join is told ahead of the load.
            for call, rest in ((split_load, (load,)), (shows_split, (load, None))):
                with self.assertRaises(BadJoin):
                    call(Board((".....",)), Board((".",)), (), *rest)
        self.assertIsNotNone(split_load(ONE, OTHER, SHARED, (20, -20, 0, 0)))

    def test_what_two_boards_carry_their_join_carries(self):
        for at, (one, other, shared) in enumerate(list(some_joins())[::5]):
            here, there = places(one, other, shared)
            made = [0] * len(joined(one, other, shared))
            for board, side, seed in ((one, here, at), (other, there, at + 1)):
                pairs = plain_steps(board)
                for (behind, ahead), number in zip(pairs, mixed_numbers(seed, len(pairs), 0, 1)):
                    made[side[behind]] += number
                    made[side[ahead]] -= number
            self.assertIsNotNone(split_load(one, other, shared, tuple(made)))


if __name__ == "__main__":
    unittest.main()
