"""Points 30 and 31: weaves that hold, bridges, and why no weave holds."""

import unittest
from itertools import product

from plain import all_lots, mixed_board, plain_closed_lots
from plainpictures import (
    LETTERS, SIZES, all_cells, larger_pictures, mixed_colours, plain_free, plain_holds, plain_is_bridge, plain_loose,
    plain_pieces, plain_seen, plain_weaves, plain_wrong, small_pictures,
)

from wovenframes.boards import Board
from wovenframes.errors import TooMany
from wovenframes.holdweaves import bridges, holding_weave, many_holding, shows_holding, shows_why, why_not

ALL_A = ("a",) * 10


def plain_bridges(picture, colours):
    return [cell for cell in plain_free(picture, colours) if plain_is_bridge(picture, cell)]


def plain_lifting(board):
    """The first closed lot that is neither empty nor all threads."""
    return plain_closed_lots(board)[1]


def plain_reasons(picture, colours):
    """All reasons why no weave holds, those of one kind in their order."""
    reasons = [("cell", *cell) for cell in plain_wrong(picture, colours)]
    reasons += [("bridge", *cell) for cell in plain_bridges(picture, colours)]
    if not plain_wrong(picture, colours):
        reasons += [("lot", lot) for lot in plain_closed_lots(plain_loose(picture, colours))[1:-1]]
    return reasons


def holding(picture, colours):
    return [cells for cells in plain_weaves(picture, colours) if plain_holds(Board(cells))]


def free_pictures():
    """Pictures of all sizes, with most cells free, and some gaps."""
    for rows, columns in SIZES:
        for seed, signs in enumerate(("<>x", ".<>", ".<>>", "..<>x", ".<>x")):
            board = mixed_board(rows, columns, seed + 50, signs)
            colours = mixed_colours(rows + columns, seed, ("a", "aab", "aaab", "a", "ab")[seed])
            yield plain_seen(board, colours), colours


class Bridges(unittest.TestCase):
    def test_against_the_pieces_without_the_cell(self):
        for picture, colours in [*small_pictures(), *larger_pictures(), *free_pictures()]:
            self.assertEqual(bridges(picture, colours), plain_bridges(picture, colours))

    def test_those_of_a_line_and_of_a_ring(self):
        self.assertEqual(bridges(("aaaaa",), ("a",) * 6), [(0, column) for column in range(5)])
        self.assertEqual(bridges(("aa", "aa"), ("a",) * 4), [])
        self.assertEqual(bridges(("aax", "aa."), ("a",) * 5), [])
        self.assertEqual(bridges(("aaa", "aa."), ("a",) * 5), [(0, 2)])

    def test_a_cell_that_is_not_free_is_none(self):
        self.assertEqual(bridges(("x",), ("a", "a")), [])
        self.assertEqual(bridges(("a",), ("a", "b")), [])
        self.assertEqual(bridges(("b",), ("a", "a")), [])
        self.assertEqual(bridges(("c",), ("a", "b")), [])

    def test_a_cell_that_cannot_be_shown_joins_its_threads(self):
        self.assertEqual(bridges(("aa", "ac"), ("a",) * 4), [])
        self.assertEqual(bridges(("aa", "a."), ("a",) * 4), [(0, 0), (0, 1), (1, 0)])


class Holding(unittest.TestCase):
    def check(self, picture, colours):
        cells = holding_weave(picture, colours)
        self.assertIs(shows_holding(picture, colours, cells), cells is not None)
        if cells is None:
            self.assertIn(why_not(picture, colours), plain_reasons(picture, colours))
        else:
            self.assertEqual(plain_seen(Board(cells), colours), picture)
            self.assertTrue(plain_holds(Board(cells)))
            self.assertEqual(plain_reasons(picture, colours), [])
            self.assertIsNone(why_not(picture, colours))
        return cells is not None

    def test_against_all_weaves(self):
        for picture, colours in list(small_pictures())[::2]:
            made = holding(picture, colours)
            self.assertEqual(self.check(picture, colours), made != [])
            self.assertEqual(many_holding(picture, colours), len(made))

    def test_larger_pictures_against_all_weaves(self):
        seen = {True: 0, False: 0}
        for picture, colours in [*larger_pictures(), *free_pictures()]:
            does = self.check(picture, colours)
            if len(plain_free(picture, colours)) <= 8:
                made = holding(picture, colours)
                self.assertEqual(does, made != [])
                self.assertEqual(many_holding(picture, colours), len(made))
                seen[does] += 1
        self.assertGreater(min(seen.values()), 20)

    def test_just_if_shown_held_by_the_free_board_and_without_bridges(self):
        for picture, colours in [*list(small_pictures())[::7], *larger_pictures(), *free_pictures()]:
            wanted = (
                not plain_wrong(picture, colours)
                and plain_holds(plain_loose(picture, colours))
                and not plain_bridges(picture, colours)
            )
            self.assertEqual(holding_weave(picture, colours) is not None, wanted)

    def test_all_free(self):
        for rows, columns in SIZES:
            picture, colours = ("e" * columns,) * rows, ("e",) * (rows + columns)
            self.assertEqual(self.check(picture, colours), rows > 1 and columns > 1)

    def test_a_ring_with_one_way_to_hold(self):
        self.assertEqual(holding_weave(("ab", "aa"), ("a", "a", "a", "b")), ("><", "<>"))
        self.assertIn(holding_weave(("aa", "aa"), ("a",) * 4), [("<>", "><"), ("><", "<>")])
        self.assertEqual(many_holding(("aa", "aa"), ("a",) * 4), 2)

    def test_shows_holding(self):
        for picture, colours in list(small_pictures())[::101]:
            made = holding(picture, colours)
            for cells in product((".", "<", ">", "x"), repeat=len(picture) * len(picture[0])):
                text, wide = "".join(cells), len(picture[0])
                value = tuple(text[start:start + wide] for start in range(0, len(text), wide))
                self.assertIs(shows_holding(picture, colours, value), value in made)

    def test_shows_holding_of_other_values(self):
        picture, colours = ("ab", "aa"), ("a", "a", "a", "b")
        self.assertIs(shows_holding(picture, colours, ("><", "<>")), True)
        for value in (None, True, 0, "", "><<>", ["><", "<>"], (), ("><",), ("><", "<>", "<>"), ("><x", "<>x"), ("ab", "aa"),
                      ("><", "<"), ("x<", "x>"), ("><", "<x"), ("><", "<>", ""), (">", "<"), {"><": "<>"}, picture,
                      (("><", "<>"),), (1, 2), ("><", None), ("><", ["<>"]), Board(("><", "<>")), ("xx", "xx"),
                      ("><<>",), ("><", "<a")):
            with self.subTest(value=value):
                self.assertIs(shows_holding(picture, colours, value), False)
        self.assertIs(shows_holding(("b",), ("a", "a"), None), False)
        self.assertIs(shows_holding(("x",), ("a", "a"), ("x",)), True)

    def test_the_most_weaves_that_are_counted(self):
        self.assertEqual(many_holding(("aaaaa",) * 2, ALL_A[:7]), 2 ** 5 - 2)
        self.assertEqual(many_holding(("aaaaa", "aaaaa", "xxxxx", "xxxxx"), ALL_A[:9]), 1024 - 124)
        for picture in (("aaaaa", "aaaaa", "a...."), ("aaaaa",) * 5):
            colours = ALL_A[:len(picture) + 5]
            with self.assertRaises(TooMany) as caught:
                many_holding(picture, colours)
            self.assertEqual(caught.exception.most, 2000)

    def test_none_are_counted_where_none_show_the_picture(self):
        self.assertEqual(many_holding(("aaaaa",) * 4 + ("aaaab",), ALL_A), 0)
        self.assertIsNone(holding_weave(("aaaaa",) * 4 + ("aaaab",), ALL_A))


class Reasons(unittest.TestCase):
    def test_the_first_one_that_there_is(self):
        seen = {"cell": 0, "bridge": 0, "lot": 0, None: 0}
        for picture, colours in [*small_pictures(), *larger_pictures(), *free_pictures()]:
            wrong, loose = plain_wrong(picture, colours), plain_bridges(picture, colours)
            if wrong:
                wanted = ("cell", *wrong[0])
            elif loose:
                wanted = ("bridge", *loose[0])
            else:
                board = plain_loose(picture, colours)
                wanted = None if plain_holds(board) else ("lot", plain_lifting(board))
            self.assertEqual(why_not(picture, colours), wanted)
            seen[wanted[0] if wanted else None] += 1
        self.assertGreater(min(seen.values()), 20)

    def test_shows_each_reason_and_no_other(self):
        for picture, colours in [*list(small_pictures())[::17], *list(larger_pictures())[::5], *free_pictures()]:
            reasons = plain_reasons(picture, colours)
            some = [(word, *cell) for word in ("cell", "bridge", "lot") for cell in all_cells(picture)]
            lots = all_lots(plain_loose(picture, colours))
            some += [("lot", lot) for lot in lots[:: 1 if len(lots) < 65 else 13]] + [("lot", lots[-1]), ("lot", ())]
            for value in [*some, *reasons[:60]]:
                self.assertIs(shows_why(picture, colours, value), value in reasons)
            self.assertIs(shows_why(picture, colours, None), False)

    def test_shows_what_why_not_tells(self):
        for picture, colours in [*list(small_pictures())[::5], *larger_pictures(), *free_pictures()]:
            told = why_not(picture, colours)
            self.assertIs(shows_why(picture, colours, told), told is not None)

    def test_any_cell_any_bridge_and_any_lot(self):
        picture, colours = ("ca", "ac", "a."), ("a",) * 5
        self.assertEqual(why_not(picture, colours), ("cell", 0, 0))
        self.assertIs(shows_why(picture, colours, ("cell", 1, 1)), True)
        self.assertIs(shows_why(picture, colours, ("bridge", 2, 0)), True)
        self.assertIs(shows_why(picture, colours, ("bridge", 0, 1)), False)
        self.assertIs(shows_why((".a",), ("a", "a", "a"), ("lot", (1,))), True)
        self.assertIs(shows_why((".a", "c."), ("a",) * 4, ("lot", (0,))), False)
        self.assertIs(shows_why(("..", "c."), ("a",) * 4, ("lot", (0,))), False)
        self.assertIs(shows_why(("..", ".."), ("a",) * 4, ("lot", (0, 3))), True)

    def test_other_values_are_none(self):
        picture, colours = ("ab", "aa"), ("a", "a", "b", "b")
        self.assertEqual(why_not(picture, colours), ("lot", (1,)))
        for value in (None, True, 0, "", "lot", (), ("lot",), ("lot", (1,), 0), ["lot", (1,)], ("lot", [1]), ("lot", 1),
                      ("lot", (True,)), ("Lot", (1,)), ("lot", ()), ("lot", (0, 1, 2, 3)), ("lot", (3, 1)), (None, (1,)),
                      ("lot", (4,)), ("cell", 0, 0), ("bridge", 0, 0), ("cell", (0, 0)), ("cell", 2, 0), ("lot", None),
                      ("bridge", True, 0), ("cell", "0", 0), {"lot": (1,)}, (("lot", (1,)),), ("lot", ((1,),)),
                      (("lot",), (1,)), (["lot"], (1,)), ("cell", None, None), (Board((".",)), (1,))):
            with self.subTest(value=value):
                self.assertIs(shows_why(picture, colours, value), False)
        self.assertIs(shows_why(("c.", ".."), colours, ("cell", 0, 0)), True)
        for value in (("cell", False, 0), ("cell", 0, False), ("cell", 0), ("cell", 0, 0, 0), ["cell", 0, 0], ("cell", (0, 0))):
            self.assertIs(shows_why(("c.", ".."), colours, value), False)
        self.assertIs(shows_why(("aa", "aa"), ("a",) * 4, ("lot", (0,))), False)

    def test_pieces_that_do_not_touch(self):
        for picture, colours in [*larger_pictures(), *free_pictures()]:
            if len(plain_pieces(picture)) > 1:
                self.assertIsNone(holding_weave(picture, colours))

    def test_all_letters(self):
        for letter in LETTERS:
            self.assertEqual(why_not((letter,), (letter, letter)), ("bridge", 0, 0))
            self.assertIsNone(why_not((letter * 2,) * 2, (letter,) * 4))


if __name__ == "__main__":
    unittest.main()
