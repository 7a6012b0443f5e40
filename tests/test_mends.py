"""Points 33 and 34: mends of a picture, and what shows that none is smaller."""

import unittest
from itertools import chain, combinations, product

from plain import mixed_board, plain_closed_lots
from plainpictures import (
    SIZES, all_cells, all_tables, larger_pictures, mixed_colours, mixed_picture, plain_free, plain_holds,
    plain_is_bridge, plain_loose, plain_pieces, plain_seen, plain_weaves, plain_wrong, small_pictures,
)

from wovenframes.boards import Board
from wovenframes.holdweaves import holding_weave
from wovenframes.mends import first_mend, is_mend, mend_paper, shows_mend

RING = ("aa", "aa")
APART = ("a", "a", "b", "b")


def lettered(picture):
    return [(row, column) for row, column in all_cells(picture) if picture[row][column] not in (".", "x")]


def recoloured(picture, cells, letters):
    """The picture with other letters in some cells."""
    new = dict(zip(cells, letters))
    return tuple(
        "".join(new.get((row, column), sign) for column, sign in enumerate(signs)) for row, signs in enumerate(picture)
    )


def plain_does_mend(picture, colours, cells):
    """Whether some weave holds for some choice of the colours of the cells, all choices and all weaves tried."""
    choices = [sorted({colours[row], colours[len(picture) + column]}) for row, column in cells]
    return any(
        plain_holds(Board(woven))
        for letters in product(*choices)
        for woven in plain_weaves(recoloured(picture, cells, letters), colours)
    )


def plain_mends(picture, colours):
    """All mends, the smaller first, those of one size ascending."""
    cells = lettered(picture)
    return [
        some
        for size in range(len(cells) + 1)
        for some in combinations(cells, size)
        if plain_does_mend(picture, colours, some)
    ]


def can_be_mended(picture):
    """Whether no cell with a letter is a bridge, and all threads are joined."""
    return len(plain_pieces(picture)) == 1 and not any(plain_is_bridge(picture, cell) for cell in lettered(picture))


def cells_out(picture, lot):
    """The cells with letters of which one thread is in a lot, and the other one beside it."""
    return {
        (row, column) for row, column in lettered(picture) if (row in lot) != (len(picture) + column in lot)
    }


def tried_pictures():
    """Pictures of few cells, with colours, of which many have mends."""
    for seed in range(24):
        for rows, columns in ((2, 2), (2, 3), (3, 2)):
            signs = ("ab", "aab", "abc", "abx", "ab.", "abb")[seed % 6]
            picture = mixed_picture(rows, columns, seed, signs)
            yield picture, ("a",) * rows + ("b",) * columns
            yield picture, mixed_colours(rows + columns, seed, "ab")


def large_pictures():
    """Pictures of all sizes with colours, of which many have mends of some size."""
    for rows, columns in SIZES:
        apart = ("a",) * rows + ("b",) * columns
        for seed, signs in enumerate(("ab", "a", "aaab", "ab.", "aab..", "a.", "abc", "aax", "aabbc.")):
            yield mixed_picture(rows, columns, seed, signs), apart
            yield mixed_picture(rows, columns, seed + 20, signs), mixed_colours(rows + columns, seed, "aab")
        for seed, signs in enumerate(("<>", ">", "..<>", ".<>>", "..>>>")):
            yield plain_seen(mixed_board(rows, columns, seed + 60, signs), apart), apart


class Mends(unittest.TestCase):
    def test_against_all_mends(self):
        many = 0
        for picture, colours in chain(list(small_pictures())[::41], tried_pictures()):
            mends = plain_mends(picture, colours)
            self.assertEqual(first_mend(picture, colours), mends[0] if mends else None)
            many += 1 if mends and mends[0] else 0
        self.assertGreater(many, 50)

    def test_is_mend_against_all_choices(self):
        for picture, colours in chain(list(small_pictures())[::101], list(tried_pictures())[::4]):
            mends = plain_mends(picture, colours)
            cells = lettered(picture)
            for size in range(len(cells) + 1):
                for some in combinations(cells, size):
                    self.assertIs(is_mend(picture, colours, some), some in mends)

    def test_the_empty_mend_is_one_just_if_some_weave_holds(self):
        for picture, colours in chain(small_pictures(), larger_pictures(), large_pictures()):
            does = holding_weave(picture, colours) is not None
            self.assertIs(is_mend(picture, colours, ()), does)
            self.assertEqual(first_mend(picture, colours) == (), does)

    def test_none_just_where_a_letter_is_a_bridge_or_threads_are_not_joined(self):
        seen = {True: 0, False: 0}
        for picture, colours in chain(list(small_pictures())[::3], larger_pictures(), large_pictures()):
            able = can_be_mended(picture)
            self.assertEqual(first_mend(picture, colours) is not None, able)
            self.assertIs(is_mend(picture, colours, tuple(lettered(picture))), able)
            seen[able] += 1
        self.assertGreater(min(seen.values()), 100)

    def test_larger_pictures_the_least_of_the_smallest(self):
        seen = {}
        for picture, colours in large_pictures():
            mend = first_mend(picture, colours)
            if mend is None:
                continue
            wrong, free = plain_wrong(picture, colours), plain_free(picture, colours)
            self.assertEqual(list(mend), sorted(set(mend)))
            self.assertTrue(set(wrong) <= set(mend) <= set(lettered(picture)) - set(free))
            barring = [cells_out(picture, lot) for lot in plain_closed_lots(plain_loose(picture, colours))[1:-1]]
            able = [cell for cell in lettered(picture) if cell not in wrong and cell not in free]
            size = len(mend) - len(wrong)
            if size > 3 and len(able) > 12:
                continue
            seen[size] = seen.get(size, 0) + 1
            self.assertFalse(any(
                all(cells & set(some) for cells in barring) for some in combinations(able, max(size - 1, 0))
            ) and size > 0)
            first = next(some for some in combinations(able, size) if all(cells & set(some) for cells in barring))
            self.assertEqual(mend, tuple(sorted([*wrong, *first])))
        self.assertTrue(all(seen.get(size, 0) > 3 for size in range(4)), seen)

    def test_each_mend_makes_a_weave_hold(self):
        for picture, colours in large_pictures():
            mend = first_mend(picture, colours)
            if mend is not None and len(mend) <= 5:
                choices = [sorted({colours[row], colours[len(picture) + column]}) for row, column in mend]
                self.assertTrue(any(
                    holding_weave(recoloured(picture, mend, letters), colours) is not None
                    for letters in product(*choices)
                ))

    def test_all_over_one_another(self):
        for many in range(2, 6):
            picture = ("a" * many,) * many
            mend = first_mend(picture, ("a",) * many + ("b",) * many)
            self.assertEqual(mend, tuple((at, at) for at in range(many)))
        self.assertEqual(first_mend(("aaaaa",) * 2, ("a",) * 2 + ("b",) * 5), ((0, 0), (0, 1), (0, 2), (0, 3), (1, 4)))
        self.assertEqual(first_mend(("aaaaa",) * 5, ("a",) * 10), ())

    def test_cells_that_cannot_be_shown_are_in_each_mend(self):
        self.assertEqual(first_mend(("ca", "aa"), APART), ((0, 0), (1, 1)))
        self.assertEqual(first_mend(("cc", "cc"), APART), ((0, 0), (0, 1), (1, 0), (1, 1)))
        self.assertEqual(first_mend(("ca", "aa"), ("a",) * 4), ((0, 0),))
        self.assertIs(is_mend(("ca", "aa"), ("a",) * 4, ()), False)
        self.assertIs(is_mend(("ca", "aa"), ("a",) * 4, ((0, 0), (1, 0))), True)

    def test_bridges_and_gaps(self):
        self.assertIsNone(first_mend(("aa",), ("a", "b", "b")))
        self.assertIsNone(first_mend(("a",), ("a", "a")))
        self.assertIsNone(first_mend((".",), ("a", "b")))
        self.assertEqual(first_mend(("xx",), ("a", "b", "b")), ())
        self.assertIsNone(first_mend(("xa",), ("a", "b", "b")))
        self.assertIsNone(first_mend(("ca", "a."), APART))

    def test_other_values_are_no_mend(self):
        self.assertIs(is_mend(RING, APART, ((0, 1), (1, 0))), True)
        for value in (None, True, 0, "", [], [(0, 1), (1, 0)], {}, ((1, 0), (0, 1)), ((0, 1), (0, 1), (1, 0)), ((0, 1),),
                      ((0, 1), [1, 0]), ((0, True), (1, 0)), ((False, 1), (1, 0)), ((0, 1), (1, 2)), ((0, 1), (2, 0)),
                      ((0, 1), (1, 0), (1, -1)), ((0, 1), (1, 0), 1), ((0, 1), (1, 0, 0)), ((0, 1), (1,)), ((0, 1), None),
                      ((0, "1"), (1, 0)), (0, 1), ((),), ((0, 1), (1, 0), (1, 0)), ((-1, 0), (0, 1), (1, 0)),
                      (((0, 1), (1, 0)),), Board((".",)), (Board((".",)),), ((0, 10 ** 30), (1, 0))):
            with self.subTest(value=value):
                self.assertIs(is_mend(RING, APART, value), False)
        # Cells without letters are in no mend.
        self.assertIs(is_mend(("xa", "aa"), ("a",) * 4, ((0, 0),)), False)
        self.assertIs(is_mend(("aa.", "aax"), ("a",) * 5, ((0, 2),)), False)
        self.assertIs(is_mend(("aa.", "aax"), ("a",) * 5, ((1, 2),)), False)
        self.assertIs(is_mend(("aa.", "aax"), ("a",) * 5, ((1, 1),)), True)


class Papers(unittest.TestCase):
    def check(self, picture, colours):
        paper = mend_paper(picture, colours)
        if paper is None:
            self.assertIsNone(first_mend(picture, colours))
            self.assertIs(shows_mend(picture, colours, paper), False)
            return None
        mend, lots = paper
        closed = plain_closed_lots(plain_loose(picture, colours))[1:-1]
        self.assertIs(is_mend(picture, colours, mend), True)
        self.assertTrue(all(lot in closed for lot in lots))
        for one, other in combinations(lots, 2):
            self.assertEqual(cells_out(picture, one) & cells_out(picture, other), set())
        wrong = plain_wrong(picture, colours)
        self.assertEqual(len(lots), len([cell for cell in mend if cell not in wrong]))
        self.assertEqual(len(mend), len(first_mend(picture, colours)))
        self.assertIs(shows_mend(picture, colours, paper), True)
        self.assertIs(shows_mend(picture, colours, (mend, list(lots))), True)
        self.assertIs(shows_mend(picture, colours, (mend, list(lots)[::-1])), True)
        return len(lots)

    def test_where_there_is_a_mend_there_is_a_paper(self):
        seen = {}
        for picture, colours in chain(list(small_pictures())[::3], tried_pictures(), larger_pictures(), large_pictures()):
            many = self.check(picture, colours)
            seen[many] = seen.get(many, 0) + 1
        self.assertTrue(all(seen.get(many, 0) > 3 for many in (None, 0, 1, 2, 3, 4, 5)), seen)

    def test_all_pictures_of_two_rows_and_two_columns(self):
        for picture in all_tables(2, 2, "abc.x"):
            for colours in (APART, ("a", "a", "a", "b"), ("a", "b", "b", "c")):
                self.check(picture, colours)

    def test_six_cells(self):
        for picture in (("..a.a", "b...b", "bb.b.", "bb.b.", "a.a.."), ("bb.bb", ".bb.b", ".b..b", "..b.b", "b.bb.")):
            self.assertEqual(self.check(picture, ("a",) * 5 + ("b",) * 5), 6)

    def test_shows_all_pairs_that_are_papers(self):
        for picture, colours in ((RING, APART), (("ca", "aa"), APART), (("aa", "aa"), ("a", "a", "a", "b")),
                                 (("ab", "aa"), APART), (("aab", "aaa"), ("a", "a", "b", "b", "b"))):
            cells, closed = lettered(picture), plain_closed_lots(plain_loose(picture, colours))[1:-1]
            mends, wrong = plain_mends(picture, colours), plain_wrong(picture, colours)
            for mend in [some for size in range(5) for some in combinations(cells, size)]:
                for lots in [some for size in range(4) for some in product(closed, repeat=size)]:
                    wanted = (
                        mend in mends
                        and len(lots) == len(set(mend) - set(wrong))
                        and not any(
                            cells_out(picture, one) & cells_out(picture, other) for one, other in combinations(lots, 2)
                        )
                    )
                    self.assertIs(shows_mend(picture, colours, (mend, lots)), wanted)

    def test_other_values_are_no_paper(self):
        good = (((0, 0), (1, 1)), [(0,), (1,)])
        self.assertIs(shows_mend(RING, APART, good), True)
        for value in (None, True, 0, "", [], list(good), (), good[:1], good + (0,), good[0], {}, (None, None), ((), ()),
                      (good[0], None), (good[0], 0), (good[0], {}), (good[0], "ab"), (good[0], [(0,)]), (good[0], ()),
                      (good[0], [(0,), (0,)]), (good[0], [(0,), (0, 1)]), (good[0], [(0,), [1]]), (good[0], [(0,), 1]),
                      (good[0], [(0,), (True,)]), (good[0], [(0,), (1,), ()]), (good[0], [(0,), ()]), (good[0], [(0,), (2,)]),
                      (good[0], [(0,), (0, 1, 2, 3)]), (good[0], [(0,), (1,), (0, 1, 2)]), (list(good[0]), good[1]),
                      (((0, 0), (0, 1), (1, 0)), good[1]), (((0, 0),), [(0,)]), (((0, 0), (0, 1)), good[1]),
                      (((1, 1), (0, 0)), good[1]), (good[0], [(0,), None]), (good[0], [(0,), (4,)]), (good[0], Board((".",))),
                      (((0, 0), (1, True)), good[1]), (good[0], [(0,), "1"]), (good[0], [(0,), ((1,),)]), (good[1], good[0])):
            with self.subTest(value=value):
                self.assertIs(shows_mend(RING, APART, value), False)
        self.assertIs(shows_mend(RING, APART, (((0, 0), (1, 1)), ((0,), (1,)))), True)
        self.assertIs(shows_mend(RING, APART, (((0, 0), (1, 1)), ((0, 1, 2), (0, 1, 3)))), True)
        self.assertIs(shows_mend(RING, APART, (((0, 0), (0, 1), (1, 0)), ((0,), (1,), (0, 1)))), False)

    def test_a_mend_with_a_cell_too_many_is_in_no_paper(self):
        self.assertIs(is_mend(("ab", "aa"), ("a", "a", "a", "b"), ((0, 0),)), True)
        self.assertIs(shows_mend(("ab", "aa"), ("a", "a", "a", "b"), (((0, 0),), ())), False)
        self.assertIs(shows_mend(("ab", "aa"), ("a", "a", "a", "b"), ((), ())), True)
        self.assertIs(shows_mend(("ab", "aa"), ("a", "a", "a", "b"), ((), [])), True)


if __name__ == "__main__":
    unittest.main()
