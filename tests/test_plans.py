"""Points 51 and 52: plans of trials, the best single trial, and its fewest looks."""

import unittest
from functools import lru_cache
from itertools import combinations

from plain import all_boards, all_lots, threads_of
from plainbreaks import (
    alongs, boards_with_breaks, plain_along, plain_breaks, plain_left_behind, small_boards, some_log,
)
from plainloads import with_signs

from wovenframes.boards import Board
from wovenframes.errors import BadLog, BadMany, BadMost, BadThread, TooMany
from wovenframes.plans import best_trial, fewest_looks, fewest_trials, plan, shows_plan

BOARD = Board((">x", ".<"))
# By two broken cells just 3000, and 3001, unlike lots of breaks can be left on these.
JUST_ENOUGH = (
    (".<<.<", ">>>>>", ".<<.<", "<<><<", ".<.<<"), ("><><<", ".<>..", "><.>>", "><><<", ".<>>>"),
    (".<>>>", ".<>>>", "><>>>", "><>>>", ">x..."),
)
ONE_TOO_MANY = (
    (".<>>>", "><.>>", "><>>>", "><>>>", ">x..."), (".<<.<", "<>>>>", ".<<<<", "<<.<<", ".<<<<"),
    ("><...", "<.<<>", "<.<.>", ".<>..", "><>>."),
)


def rows_of(board, most):
    """For each unlike break of at most so many cells what comes along with each thread."""
    return sorted({alongs(with_signs(board, lost, ".")) for lost in plain_breaks(board, most)})


def parted(rows, thread):
    """The rows by what comes along with a thread."""
    groups = {}
    for row in rows:
        groups.setdefault(row[thread], []).append(row)
    return groups


def plain_depth(rows):
    """The least number of trials by which unlike breaks are told apart, whichever is there; all ways are tried."""
    @lru_cache(maxsize=None)
    def depth(left):
        if len(left) == 1:
            return 0
        ways = [parted(left, thread) for thread in range(len(left[0]))]
        return 1 + min(max(depth(tuple(some)) for some in groups.values()) for groups in ways if len(groups) > 1)

    return depth(tuple(rows))


def plain_many_left(rows):
    """How many unlike lots of breaks can be left: those that some threads' trials leave, for any threads, none too."""
    found = set()
    for threads in (some for size in range(len(rows[0]) + 1) for some in combinations(range(len(rows[0])), size)):
        groups = {}
        for at, row in enumerate(rows):
            groups.setdefault(tuple(row[thread] for thread in threads), []).append(at)
        found |= {tuple(group) for group in groups.values()}
    return len(found)


def depth_of(told):
    """The number of trials on the longest way of a plan."""
    return 0 if told == ("end",) else 1 + max(depth_of(behind) for _, behind in told[1])


def is_plain_plan(rows, value):
    """Whether a plan, right in its form, is one for unlike breaks."""
    if value == ("end",):
        return len(rows) == 1
    thread, branches = value
    groups = parted(rows, thread)
    return [lot for lot, _ in branches] == sorted(groups) and all(
        is_plain_plan(groups[lot], behind) for lot, behind in branches
    )


def all_plans(rows, many):
    """All plans of a depth of at most many for unlike breaks."""
    found = [("end",)] if len(rows) == 1 else []
    if many > 0:
        for thread in range(len(rows[0])):
            groups = sorted(parted(rows, thread).items())
            ways = [()]
            for lot, some in groups:
                ways = [way + ((lot, behind),) for way in ways for behind in all_plans(some, many - 1)]
            found += [(thread, way) for way in ways]
    return found


class Plans(unittest.TestCase):
    def check(self, board, most):
        rows = rows_of(board, most)
        depth = plain_depth(rows)
        told = plan(board, most)
        self.assertEqual(fewest_trials(board, most), depth)
        self.assertEqual(depth_of(told), depth)
        self.assertTrue(is_plain_plan(rows, told))
        for many in range(11):
            self.assertIs(shows_plan(board, most, many, told), many >= depth)
        return depth

    def test_small_boards(self):
        seen = {}
        for board in small_boards():
            for most in range(3):
                depth = self.check(board, most)
                seen[depth] = seen.get(depth, 0) + 1
        self.assertTrue(all(seen.get(depth, 0) > 1 for depth in range(5)), seen)

    def test_larger_boards(self):
        seen = {}
        for board in list(boards_with_breaks())[-36::2]:
            for most in (1, 2):
                if plain_many_left(rows_of(board, most)) <= 1200:
                    depth = self.check(board, most)
                    seen[depth] = seen.get(depth, 0) + 1
        self.assertTrue({0, 2, 3, 4, 5} <= set(seen), seen)

    def test_nothing_to_be_told_apart(self):
        for board in (Board((".",)), Board((".....",) * 5), Board(("xxxxx",) * 5)):
            for most in range(3):
                self.assertEqual((plan(board, most), fewest_trials(board, most)), (("end",), 0))
                self.assertIs(shows_plan(board, most, 0, ("end",)), True)
        self.assertEqual((plan(BOARD, 0), fewest_trials(BOARD, 0)), (("end",), 0))

    def test_just_three_thousand(self):
        for cells in JUST_ENOUGH:
            board = Board(cells)
            rows = rows_of(board, 2)
            self.assertEqual(plain_many_left(rows), 3000)
            told = plan(board, 2)
            self.assertTrue(is_plain_plan(rows, told))
            self.assertEqual(fewest_trials(board, 2), depth_of(told))
            self.assertIs(shows_plan(board, 2, 10, told), True)
            self.assertIs(shows_plan(board, 2, depth_of(told) - 1, told), False)

    def test_more_than_three_thousand(self):
        for cells in ONE_TOO_MANY:
            board = Board(cells)
            self.assertEqual(plain_many_left(rows_of(board, 2)), 3001)
            for call in (plan, fewest_trials):
                with self.assertRaises(TooMany) as caught:
                    call(board, 2)
                self.assertEqual(caught.exception.most, 3000)
                self.assertIsNotNone(call(board, 1))
            # A plan can be shown all the same: each thread is lifted, one behind the other.
            told = self.all_threads(rows_of(board, 2), 0)
            self.assertIs(shows_plan(board, 2, 10, told), True)
            self.assertIs(shows_plan(board, 2, 9, told), False)

    def all_threads(self, rows, thread):
        if thread == len(rows[0]):
            return ("end",)
        groups = sorted(parted(rows, thread).items())
        return (thread, tuple((lot, self.all_threads(some, thread + 1)) for lot, some in groups))

    def test_bad_most_ahead_of_too_many(self):
        for most in (None, True, -1, 3, "2", (2,), [], {}, BOARD):
            for call in (plan, fewest_trials):
                with self.assertRaises(BadMost):
                    call(Board(ONE_TOO_MANY[0]), most)


class Shown(unittest.TestCase):
    def test_all_plans_of_tiny_boards(self):
        many = 0
        for board in list(all_boards(1, 2))[::2] + list(all_boards(2, 1))[1::2]:
            for most in (0, 1):
                rows = rows_of(board, most)
                for depth in range(3):
                    plans = all_plans(rows, depth)
                    many += len(plans)
                    for told in plans[::1 + len(plans) // 40]:
                        self.assertTrue(is_plain_plan(rows, told))
                        for most_trials in range(3):
                            self.assertIs(shows_plan(board, most, most_trials, told), depth_of(told) <= most_trials)
        self.assertGreater(many, 300)

    def test_a_trial_that_tells_nothing(self):
        # There, too, a plan may go on, even where there is nothing left to be told.
        board = Board(("x",))
        whole = (0, 1)
        self.assertIs(shows_plan(board, 0, 1, (0, ((whole, ("end",)),))), True)
        self.assertIs(shows_plan(board, 0, 0, (0, ((whole, ("end",)),))), False)
        self.assertIs(shows_plan(board, 0, 2, (0, ((whole, (1, ((whole, ("end",)),))),))), True)
        self.assertIs(shows_plan(board, 1, 1, (0, (((0,), ("end",)), (whole, ("end",))))), True)
        self.assertIs(shows_plan(board, 1, 1, ("end",)), False)

    def altered(self, told):
        """What comes of a plan if one thing in it is not as it was."""
        if told == ("end",):
            yield from (("End",), ("end", ()), (), ["end"], "end", None, ("end", 0), (("end",),), 0, BOARD, {}, True)
            return
        thread, branches = told
        yield from ((thread,), (thread, branches, ()), [thread, branches], (thread, list(branches)), (thread, None), ("end",))
        yield from ((str(thread), branches), (None, branches), (bool(thread), branches), (thread + 9, branches), (-1, branches))
        yield from ((thread, branches[:-1]), (thread, branches + branches[-1:]), (thread, ()), (thread, branches + ((),)))
        yield (BOARD, branches)
        if len(branches) > 1:
            yield (thread, branches[::-1])
        for at, (lot, behind) in enumerate(branches):
            ahead, after = branches[:at], branches[at + 1:]
            for other in (list(lot), lot[:-1], lot + (9,), None, (), lot[::-1] if len(lot) > 1 else 7, (True,) + lot[1:],
                          tuple(str(one) for one in lot), BOARD):
                yield (thread, ahead + ((other, behind),) + after)
            for pair in ((lot,), [lot, behind], (lot, behind, ()), None, lot, (behind, lot), BOARD):
                yield (thread, ahead + (pair,) + after)
            for other in self.altered(behind):
                yield (thread, ahead + ((lot, other),) + after)

    def test_each_thing_in_a_plan_counts(self):
        for board, most in ((BOARD, 1), (Board(("x",)), 1), (Board(("><",)), 1), (Board(("<>", "x.")), 1)):
            told = plan(board, most)
            self.assertIs(shows_plan(board, most, 10, told), True)
            many = 0
            for value in self.altered(told):
                with self.subTest(value=value):
                    self.assertIs(shows_plan(board, most, 10, value), False)
                many += 1
            self.assertGreater(many, 50)

    def test_lots_that_are_of_others(self):
        told = plan(BOARD, 1)
        self.assertIs(shows_plan(BOARD, 0, 10, told), False)
        self.assertIs(shows_plan(BOARD, 2, 10, told), False)
        self.assertIs(shows_plan(Board((">x", "><")), 1, 10, told), False)

    def test_bad_many(self):
        for many in (None, True, False, -1, 11, 12, 10 ** 30, "", "1", (), (1,), [], {}, BOARD):
            with self.subTest(many=many), self.assertRaises(BadMany):
                shows_plan(BOARD, 1, many, ("end",))
            with self.assertRaises(BadMost):
                shows_plan(BOARD, 3, many, ("end",))
        for many in range(11):
            self.assertIs(shows_plan(BOARD, 0, many, ("end",)), True)

    def test_a_value_of_great_depth(self):
        value = ("end",)
        for _ in range(300):
            value = (0, (((0, 3), value),))
        self.assertIs(shows_plan(BOARD, 0, 10, value), False)


class Trial(unittest.TestCase):
    def logged(self):
        for seed, board in list(enumerate(boards_with_breaks()))[::2]:
            for log in ((), some_log(board, seed), some_log(board, seed + 303)):
                yield board, log

    def test_the_best_trial(self):
        seen = {}
        for board, log in self.logged():
            for most in range(3):
                breaks = plain_left_behind(board, log, most)
                groups = [{} for _ in threads_of(board)]
                for thread in threads_of(board):
                    for lost in breaks:
                        groups[thread].setdefault(plain_along(board, lost, thread), []).append(lost)
                wanted = None
                if any(len(some) > 1 for some in groups):
                    worst = [max(len(lost) for lost in some.values()) for some in groups]
                    wanted = next(thread for thread in threads_of(board) if worst[thread] == min(worst))
                self.assertEqual(best_trial(board, log, most), wanted)
                seen[wanted] = seen.get(wanted, 0) + 1
        self.assertTrue(all(seen.get(thread, 0) > 2 for thread in (None, 0, 1, 2, 3, 4, 5, 6)), seen)

    def test_the_fewest_looks(self):
        seen = {}
        for board, log in self.logged():
            for most in (1, 2):
                breaks = plain_left_behind(board, log, most)
                for thread in list(threads_of(board))[::3]:
                    lots = {plain_along(board, lost, thread) for lost in breaks}
                    wanted = next(
                        looks
                        for looks in all_lots(board)
                        if len({tuple(at in lot for at in looks) for lot in lots}) == len(lots)
                    )
                    self.assertEqual(fewest_looks(board, log, most, thread), wanted)
                    seen[len(wanted)] = seen.get(len(wanted), 0) + 1
        self.assertTrue(all(seen.get(size, 0) > 2 for size in range(6)), seen)

    def test_no_break_fits(self):
        log = (("trial", 1, "?-??"),)
        for most in range(3):
            self.assertIsNone(best_trial(BOARD, log, most))
            self.assertEqual([fewest_looks(BOARD, log, most, thread) for thread in range(4)], [()] * 4)

    def test_breaks_that_are_left_count_not_those_that_fit(self):
        # Behind the mends nothing can be broken any more, whichever break there was.
        log = (("mend", 0, 0), ("mend", 0, 1), ("mend", 1, 1))
        self.assertIsNone(best_trial(BOARD, log, 2))
        self.assertEqual(fewest_looks(BOARD, log, 2, 1), ())
        self.assertEqual(best_trial(BOARD, log[:2], 2), 1)
        self.assertEqual(fewest_looks(BOARD, log[:2], 2, 1), (0,))

    def test_wrong_arguments(self):
        for log, index in ((None, None), ([], None), ((0,), 0), ((("mend", 1, 0),), 0)):
            for call, rest in ((best_trial, (None,)), (fewest_looks, (None, None))):
                with self.assertRaises(BadLog) as caught:
                    call(BOARD, log, *rest)
                self.assertEqual(caught.exception.index, index)
        for most in (None, True, -1, 3, "1", (1,), [], {}):
            for call, rest in ((best_trial, ()), (fewest_looks, (None,))):
                with self.assertRaises(BadMost):
                    call(BOARD, (), most, *rest)
        for thread in (None, True, -1, 4, "0", (0,), [], {}, 10 ** 30):
            for log in ((), (("trial", 1, "?-??"),)):
                with self.assertRaises(BadThread):
                    fewest_looks(BOARD, log, 1, thread)


if __name__ == "__main__":
    unittest.main()
