"""Points 28 and 29: what a woven board shows, and the boards that show a picture."""

import unittest

from plain import all_boards, five_by_five, larger_boards, tiny_boards
from plainpictures import (
    LETTERS, SIZES, all_cells, all_colours, larger_pictures, mixed_colours, plain_free, plain_loose, plain_seen,
    plain_weaves, plain_wrong, small_pictures,
)

from wovenframes.boards import Board, flipped
from wovenframes.errors import BadColours, BadPicture, NotShown, TooMany
from wovenframes.pictures import first_wrong, free_board, free_cells, seen, seen_behind, weaves

# Colours by which all cells of some pictures are shown, and the pictures.
ALL_A = ("a",) * 10


def colours_for_board(board):
    """A few colours for a board: all alike, all unlike as far as there are letters, and thrown ones."""
    many = len(board)
    return [("c",) * many, tuple((LETTERS * 2)[:many]), mixed_colours(many, 3, "ab"), mixed_colours(many, 4, LETTERS)]


class Seen(unittest.TestCase):
    def test_in_front_cell_by_cell(self):
        for board in [*tiny_boards(), *larger_boards(), *five_by_five()]:
            for colours in colours_for_board(board):
                self.assertEqual(seen(board, colours), plain_seen(board, colours))

    def test_from_behind(self):
        for board in [*tiny_boards(), *larger_boards(), *five_by_five()]:
            for colours in colours_for_board(board):
                shown = seen_behind(board, colours)
                self.assertEqual((len(shown), len(shown[0])), (board.rows, board.columns))
                for row, column in all_cells(board.cells):
                    wanted = {
                        ">": colours[board.rows + column], "<": colours[row], ".": ".", "x": "x",
                    }[board.cells[row][column]]
                    self.assertEqual(shown[row][board.columns - 1 - column], wanted)

    def test_one_cell_with_each_sign(self):
        for sign, front, behind in ((">", "a", "b"), ("<", "b", "a"), (".", ".", "."), ("x", "x", "x")):
            self.assertEqual(seen(Board((sign,)), ("a", "b")), (front,))
            self.assertEqual(seen_behind(Board((sign,)), ("a", "b")), (behind,))

    def test_each_string_is_turned_about_alone(self):
        board, colours = Board((">>.x>", "<<<.<")), ("a", "b", "c", "d", "e", "a", "b")
        self.assertEqual(seen(board, colours), ("aa.xa", "cde.b"))
        self.assertEqual(seen_behind(board, colours), ("bx.dc", "b.bbb"))

    def test_flipped_shows_the_picture_flipped(self):
        for board in larger_boards():
            for colours in colours_for_board(board):
                shown = seen(board, colours)
                other = colours[board.rows:] + colours[:board.rows]
                wanted = tuple("".join(line[column] for line in shown) for column in range(board.columns))
                self.assertEqual(seen(flipped(board), other), wanted)

    def test_bad_colours_for_the_threads(self):
        for board in (Board((">",)), Board((">x", ".<")), Board(("xxxxx",) * 5)):
            many = len(board)
            for call in (seen, seen_behind):
                for colours in (("a",) * (many - 1), ("a",) * (many + 1), ["a"] * many, "a" * many, ("f",) * many,
                                ("ab",) * many, ("",) + ("a",) * (many - 1), ("a",) * (many - 1) + (None,), ()):
                    with self.subTest(colours=colours), self.assertRaises(BadColours):
                        call(board, colours)


class Shown(unittest.TestCase):
    def test_wrong_and_free_cells(self):
        for picture, colours in [*small_pictures(), *larger_pictures()]:
            wrong = plain_wrong(picture, colours)
            self.assertEqual(first_wrong(picture, colours), wrong[0] if wrong else None)
            self.assertEqual(free_cells(picture, colours), plain_free(picture, colours))

    def test_free_cells_where_others_cannot_be_shown(self):
        self.assertEqual(free_cells(("abc", "ca."), ("a", "a", "a", "a", "b")), [(0, 0), (1, 1)])
        self.assertEqual(first_wrong(("abc", "ca."), ("a", "a", "a", "a", "b")), (0, 1))
        self.assertEqual(free_cells(("x.", ".x"), ("a",) * 4), [])
        self.assertIsNone(first_wrong(("x.", ".x"), ("a",) * 4))

    def test_the_last_cell_is_wrong(self):
        self.assertEqual(first_wrong(("aaaaa",) * 4 + ("aaaae",), ALL_A), (4, 4))
        self.assertEqual(first_wrong(("e",), ("a", "b")), (0, 0))

    def test_free_board(self):
        for picture, colours in [*small_pictures(), *larger_pictures()]:
            if plain_wrong(picture, colours):
                with self.assertRaises(NotShown):
                    free_board(picture, colours)
                with self.assertRaises(NotShown):
                    free_board(colours=colours, picture=picture)
            else:
                self.assertEqual(free_board(picture, colours), plain_loose(picture, colours))

    def test_the_free_board_is_what_all_weaves_are(self):
        for picture, colours in [*list(small_pictures())[::11], *larger_pictures()]:
            if plain_wrong(picture, colours) or len(plain_free(picture, colours)) > 6:
                continue
            board, made = free_board(picture, colours), weaves(picture, colours)
            for row, column in all_cells(picture):
                signs = sorted({cells[row][column] for cells in made})
                wanted = "x" if (row, column) in plain_free(picture, colours) else signs[0]
                self.assertEqual(board.cells[row][column], wanted)
                self.assertEqual(len(signs), 2 if (row, column) in plain_free(picture, colours) else 1)


class Weaves(unittest.TestCase):
    def test_against_all_boards(self):
        boards = {size: list(all_boards(*size)) for size in ((1, 1), (1, 2), (2, 1), (1, 3), (3, 1), (2, 2))}
        for picture, colours in list(small_pictures())[::3]:
            wanted = [
                board.cells for board in boards[len(picture), len(picture[0])]
                if plain_seen(board, colours) == picture
            ]
            self.assertEqual(weaves(picture, colours), sorted(wanted))

    def test_larger_pictures_cell_by_cell(self):
        for picture, colours in larger_pictures():
            if len(plain_free(picture, colours)) <= 10:
                self.assertEqual(weaves(picture, colours), plain_weaves(picture, colours))

    def test_they_ascend_and_show_the_picture(self):
        for picture, colours in larger_pictures():
            if len(plain_free(picture, colours)) <= 7:
                made = weaves(picture, colours)
                self.assertEqual(made, sorted(set(made)))
                for cells in made:
                    self.assertEqual(plain_seen(Board(cells), colours), picture)

    def test_the_most_that_are_told(self):
        self.assertEqual(len(weaves(("aaaaa",) * 2, ALL_A[:7])), 1024)
        self.assertEqual(len(weaves(("aaaaa", "aaaaa", "xx...", "..xx."), ALL_A[:9])), 1024)
        for picture in (("aaaaa", "aaaaa", "a...."), ("aaaaa", "aaaaa", "xxxxa"), ("aaaaa",) * 5, ("aaaa",) * 3):
            colours = ALL_A[:len(picture) + len(picture[0])]
            with self.assertRaises(TooMany) as caught:
                weaves(picture, colours)
            self.assertEqual(caught.exception.most, 2000)

    def test_none_however_many_cells_are_free(self):
        picture = ("aaaaa",) * 4 + ("aaaab",)
        self.assertEqual(weaves(picture, ALL_A), [])
        self.assertEqual(len(free_cells(picture, ALL_A)), 24)
        with self.assertRaises(NotShown):
            free_board(picture, ALL_A)

    def test_all_free_and_none(self):
        self.assertEqual(free_board(("aaaaa",) * 5, ALL_A).cells, ("xxxxx",) * 5)
        self.assertEqual(weaves(("xxxxx",) * 5, ALL_A), [("xxxxx",) * 5])
        self.assertEqual(weaves((".",), ("a", "a")), [(".",)])
        self.assertEqual(weaves(("a",), ("a", "a")), [("<",), (">",)])


class WrongPictures(unittest.TestCase):
    BAD = (
        None, 0, True, "", "ab", [], ["ab"], {}, (), ("",), ("", ""), ("a", "ab"), ("ab", "a"), ("aaaaaa",), ("a",) * 6,
        ("f",), ("A",), ("<",), (">",), ("a ",), ("ab", None), (None,), (1,), (("a",),), (["a"],), ("a\n",), ("ab", 7),
        (b"a",), Board((".",)), (Board((".",)),),
    )

    def test_bad_pictures(self):
        for picture in self.BAD:
            for call in (first_wrong, free_cells, free_board, weaves):
                with self.subTest(picture=picture), self.assertRaises(BadPicture):
                    call(picture, ("a", "a"))

    def test_bad_pictures_are_told_ahead_of_colours(self):
        for picture in self.BAD:
            for call in (first_wrong, free_cells, free_board, weaves):
                with self.assertRaises(BadPicture):
                    call(picture, None)

    def test_bad_colours_ahead_of_what_is_not_shown_or_too_many(self):
        for call in (first_wrong, free_cells, free_board, weaves):
            for picture in (("b",), ("aaaaa",) * 5, ("x",)):
                for colours in (None, 0, True, "aa", ["a", "a"], {}, (), ("a",), ("a",) * 3, ("a",) * 9, ("a", "."),
                                ("x", "a"), ("a",) * 9 + ("f",), ("a", None), ("a", True), ("a", ("a",)), ("a", ["a"])):
                    with self.subTest(colours=colours), self.assertRaises(BadColours):
                        call(picture, colours)

    def test_each_size_and_sign(self):
        for rows, columns in SIZES:
            for sign in "abcde.x":
                picture = (sign * columns,) * rows
                self.assertIsNone(first_wrong(picture, (sign if sign in LETTERS else "a",) * (rows + columns)))
        for colours in all_colours(2, LETTERS):
            self.assertEqual(free_cells((colours[0],), colours), [(0, 0)] if colours[0] == colours[1] else [])


if __name__ == "__main__":
    unittest.main()
