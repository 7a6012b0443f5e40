"""Points 48 to 50: logs, the breaks that fit them, what is left, and breaks that no trial tells apart."""

import unittest
from itertools import product

from plain import all_boards
from plainbreaks import (
    are_alike, boards_with_breaks, in_turn, plain_along, plain_breaks, plain_fits, plain_left, plain_left_behind,
    small_boards, some_log, whole_cells,
)

from wovenframes.boards import Board
from wovenframes.errors import BadBreak, BadLog, BadMost
from wovenframes.lostlogs import alike_breaks, breaks_that_fit, does_fit, left_behind, sure_cells
from wovenframes.trials import sight_of, told_apart

BOARD = Board((">x", ".<"))
LOG = (("trial", 2, "+-+-"),)


def logged_boards():
    for seed, board in enumerate(boards_with_breaks()):
        for more in (0, 101, 202):
            yield board, some_log(board, seed + more)


class Fits(unittest.TestCase):
    def test_against_each_break(self):
        many = {}
        for board, log in logged_boards():
            breaks = plain_breaks(board, 2)
            fit = [lost for lost in breaks if plain_fits(board, lost, log)]
            for most in range(3):
                wanted = [lost for lost in fit if len(lost) <= most]
                self.assertEqual(breaks_that_fit(board, log, most), wanted)
                self.assertEqual(left_behind(board, log, most), in_turn(plain_left(lost, log) for lost in wanted))
            for lost in breaks[::1 + len(breaks) // 12]:
                self.assertIs(does_fit(board, lost, log), lost in fit)
            many[min(len(fit), 3)] = many.get(min(len(fit), 3), 0) + 1
        self.assertTrue(all(many.get(size, 0) > 5 for size in range(4)), many)

    def test_breaks_of_more_cells_can_be_asked_of(self):
        seen = {True: 0, False: 0}
        for board, log in list(logged_boards())[::3]:
            for lost in plain_breaks(board, 5 if len(whole_cells(board)) < 8 else 3)[::17]:
                wanted = plain_fits(board, lost, log)
                self.assertIs(does_fit(board, lost, log), wanted)
                seen[wanted] += 1
            everything = tuple(whole_cells(board))
            self.assertIs(does_fit(board, everything, log), plain_fits(board, everything, log))
        self.assertGreater(min(seen.values()), 100)

    def test_each_break_fits_what_is_seen_of_it(self):
        for board in list(small_boards())[::2]:
            for lost in plain_breaks(board, 2):
                log = tuple(("trial", thread, sight_of(board, lost, thread)) for thread in range(len(board)))
                self.assertIs(does_fit(board, lost, log), True)
                # What fits all trials at all threads is just what no trial tells from it.
                wanted = [other for other in plain_breaks(board, 2) if are_alike(board, lost, other)]
                self.assertEqual(breaks_that_fit(board, log, 2), wanted)

    def test_where_nobody_looked(self):
        for most, board in product(range(3), (BOARD, Board(("xx", "xx")), Board((".",)))):
            log = tuple(("trial", thread, "?" * len(board)) for thread in range(len(board)))
            self.assertEqual(breaks_that_fit(board, log, most), plain_breaks(board, most))
            self.assertEqual(breaks_that_fit(board, (), most), plain_breaks(board, most))
        # That a thread comes along with itself is told, too.
        self.assertEqual(breaks_that_fit(BOARD, (("trial", 1, "?-??"),), 2), [])

    def test_a_mend_counts_from_then_on(self):
        ahead, behind = ("trial", 2, "+-+-"), ("trial", 2, "+-++")
        mend = ("mend", 0, 1)
        self.assertEqual(breaks_that_fit(BOARD, (ahead, mend, behind), 1), [((0, 1),)])
        self.assertEqual(left_behind(BOARD, (ahead, mend, behind), 1), [()])
        self.assertEqual(breaks_that_fit(BOARD, (mend, ahead), 1), [])
        self.assertEqual(breaks_that_fit(BOARD, (ahead, behind), 2), [])
        self.assertEqual(left_behind(BOARD, (ahead, mend, mend), 2), [(), ((1, 1),)])
        # Whether it was broken or not: the break that has it and the one that does not are left as one.
        self.assertEqual(breaks_that_fit(BOARD, (mend,), 1), [(), ((0, 0),), ((0, 1),), ((1, 1),)])
        self.assertEqual(left_behind(BOARD, (mend,), 1), [(), ((0, 0),), ((1, 1),)])

    def test_sure_cells(self):
        seen = {"none": 0, "all": 0, "sound": 0}
        for board, log in logged_boards():
            for most in range(3):
                left = plain_left_behind(board, log, most)
                told = sure_cells(board, log, most)
                if not left:
                    self.assertIsNone(told)
                    seen["none"] += 1
                    continue
                cells = whole_cells(board)
                lost = tuple(cell for cell in cells if all(cell in some for some in left))
                sound = tuple(cell for cell in cells if all(cell not in some for some in left))
                self.assertEqual(told, (lost, sound))
                seen["all"] += lost != ()
                seen["sound"] += most > 0 and sound != ()
        self.assertGreater(min(seen.values()), 20, seen)

    def test_sure_of_nothing_and_of_all(self):
        self.assertEqual(sure_cells(BOARD, (), 0), ((), ((0, 0), (0, 1), (1, 1))))
        self.assertEqual(sure_cells(BOARD, (), 1), ((), ()))
        self.assertEqual(sure_cells(BOARD, LOG, 1), (((0, 1),), ((0, 0), (1, 1))))
        self.assertEqual(sure_cells(BOARD, LOG + (("mend", 0, 1),), 1), ((), ((0, 0), (0, 1), (1, 1))))
        self.assertIsNone(sure_cells(BOARD, LOG, 0))
        self.assertEqual(sure_cells(Board((".",)), (), 2), ((), ()))


class Alike(unittest.TestCase):
    def check(self, board, most):
        groups = alike_breaks(board, most)
        told = [lost for group in groups for lost in group]
        self.assertEqual(in_turn(told), plain_breaks(board, most))
        self.assertEqual(len(told), len(set(told)))
        firsts = [group[0] for group in groups]
        self.assertEqual(firsts, in_turn(firsts))
        for group in groups:
            self.assertIs(group.__class__, list)
            self.assertEqual(group, in_turn(group))
            self.assertTrue(all(are_alike(board, group[0], lost) for lost in group))
        for one, other in product(firsts, repeat=2):
            self.assertEqual(one == other, are_alike(board, one, other))
        return groups

    def test_small_boards(self):
        for board in small_boards():
            for most in range(3):
                self.check(board, most)

    def test_larger_boards(self):
        for board in list(boards_with_breaks())[-30:]:
            for group in self.check(board, 1):
                self.assertTrue(all(told_apart(board, group[0], lost) is None for lost in group))

    def test_two_cells_of_a_large_board(self):
        groups = self.check(Board(("><><>", "<><><", "><><>", "<><><", "x><>x")), 2)
        self.assertEqual(sum(len(group) for group in groups), 1 + 25 + 300)

    def test_no_cells(self):
        for most in range(3):
            self.assertEqual(alike_breaks(Board(("..", "..")), most), [[()]])
        self.assertEqual(alike_breaks(BOARD, 0), [[()]])
        self.assertEqual(alike_breaks(Board(("x",)), 2), [[()], [((0, 0),)]])


class Wrong(unittest.TestCase):
    NO_ENTRIES = (
        None, True, 0, "", "trial", [], ["mend", 0, 0], {}, (), ("mend",), ("mend", 0), ("mend", 0, 0, 0), ("mend", 1, 0),
        ("mend", 2, 0), ("mend", 0, 2), ("mend", -1, 0), ("mend", True, 1), ("mend", 0, False), ("mend", None, 0),
        ("mend", (0, 0)), ("mend", "0", "0"), ("Mend", 0, 0), ("cut", 0, 0), ("trial",), ("trial", 0), ("trial", 0, "????", 0),
        ("trial", 4, "????"), ("trial", -1, "????"), ("trial", True, "????"), ("trial", None, "????"), ("trial", "0", "????"),
        ("trial", 0, "???"), ("trial", 0, "?????"), ("trial", 0, ""), ("trial", 0, "???."), ("trial", 0, "??? "),
        ("trial", 0, None), ("trial", 0, ("?",) * 4), ("trial", 0, ["+"] * 4), ("trial", 0, 7), ("trial", 0, {}),
        (None, 0, 0), (["trial"], 0, "????"), (("trial",), 0, "????"), BOARD, (BOARD, 0, 0), ("mend", BOARD, 0),
        ("trial", 10 ** 30, "????"), ("trial", 0, "\u2212???"), (("mend", 0, 0),),
    )

    def check(self, log, index):
        for call, rest in ((breaks_that_fit, (1,)), (left_behind, (1,)), (sure_cells, (1,)), (breaks_that_fit, (None,)),
                           (left_behind, (3,)), (sure_cells, (True,))):
            with self.subTest(log=log), self.assertRaises(BadLog) as caught:
                call(BOARD, log, *rest)
            self.assertEqual(caught.exception.index, index)
        with self.assertRaises(BadLog) as caught:
            does_fit(BOARD, ((0, 0),), log)
        self.assertEqual(caught.exception.index, index)
        with self.assertRaises(BadBreak):
            does_fit(BOARD, ((1, 0),), log)

    def test_no_tuple_of_at_most_twelve_things(self):
        for log in (None, True, 0, "", "ab", [], list(LOG), {}, {0: LOG}, BOARD, LOG * 13, (None,) * 13):
            self.check(log, None)

    def test_twelve_entries(self):
        self.assertEqual(breaks_that_fit(BOARD, LOG * 12, 1), [((0, 1),)])
        self.check(LOG * 11 + (None,), 11)

    def test_the_first_thing_that_is_no_entry(self):
        for entry in self.NO_ENTRIES:
            self.check((entry,), 0)
            self.check((entry, None), 0)
            self.check(LOG + (("mend", 0, 1), entry, entry), 2)

    def test_each_entry_that_is_one(self):
        for thread in range(4):
            for sight in product("+-?", repeat=4):
                self.assertIsInstance(does_fit(BOARD, (), (("trial", thread, "".join(sight)),)), bool)
        for row, column in ((0, 0), (0, 1), (1, 1)):
            self.assertIs(does_fit(BOARD, (), (("mend", row, column),)), True)

    def test_bad_most(self):
        for most in (None, True, False, -1, 3, 4, 10 ** 30, "", "1", (), (1,), [], [1], {}, BOARD):
            for call, rest in ((breaks_that_fit, (LOG,)), (left_behind, (LOG,)), (sure_cells, (LOG,)), (alike_breaks, ())):
                with self.subTest(most=most), self.assertRaises(BadMost):
                    call(BOARD, *rest, most)

    def test_bad_break(self):
        for lost in (None, 0, "", [], [(0, 0)], ((1, 0),), ((0, 1), (0, 0)), ((0, 0), (0, 0)), ((0, True),), ([0, 0],)):
            with self.assertRaises(BadBreak):
                does_fit(BOARD, lost, LOG)

    def test_inner_lists_are_new(self):
        told = alike_breaks(BOARD, 1)
        kept = [list(group) for group in told]
        told[0].append("changed")
        told.pop()
        self.assertEqual(alike_breaks(BOARD, 1), kept)

    def test_all_boards_of_one_cell(self):
        for board in all_boards(1, 1):
            marked = board.cells != (".",)
            self.assertEqual(breaks_that_fit(board, (), 2), [()] + [((0, 0),)] * marked)
            for thread in range(2):
                sight = "".join("+" if at in plain_along(board, (), thread) else "-" for at in range(2))
                wanted = [lost for lost in plain_breaks(board, 2) if plain_along(board, lost, thread)
                          == plain_along(board, (), thread)]
                self.assertEqual(breaks_that_fit(board, (("trial", thread, sight),), 2), wanted)


if __name__ == "__main__":
    unittest.main()
