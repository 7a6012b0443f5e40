"""Point 32: colours that a board tells, all colours of a picture, and the fewest threads to be dyed."""

import unittest
from itertools import product

from plain import all_lots, larger_boards, tiny_boards
from plainpictures import (
    LETTERS, SIZES, all_cells, all_colours, all_tables, larger_pictures, mixed_colours, mixed_picture, plain_seen,
    plain_wrong, small_pictures,
)

from wovenframes.boards import Board
from wovenframes.dyes import colours_for, dyed, told_colours
from wovenframes.errors import BadPicture, TooMany


def is_shown(picture, colours):
    """Whether each cell can be shown."""
    rows = len(picture)
    return all(
        picture[row][column] in (".", "x", colours[row], colours[rows + column]) for row, column in all_cells(picture)
    )


def letters_of(picture):
    return sorted(set("".join(picture)) & set(LETTERS))


def plain_told(board, picture, letters):
    """For each thread the one colour that it has in all colours of some letters, None if it has several."""
    able = [colours for colours in all_colours(len(board), letters) if plain_seen(board, colours) == picture]
    if not able:
        return None
    return tuple(
        able[0][thread] if all(colours[thread] == able[0][thread] for colours in able) else None
        for thread in range(len(board))
    )


def plain_dyed(picture, colours, letters):
    """The first of all lots such that some colours of some letters, unlike on it alone, show each cell."""
    able = [other for other in all_colours(len(colours), letters) if is_shown(picture, other)]
    lots = [tuple(at for at in range(len(colours)) if other[at] != colours[at]) for other in able]
    return min(lots, key=lambda lot: (len(lot), lot), default=None)


def plain_many(picture):
    """How many colours show a picture: for all colours of the rows as many as the columns, each for itself, can have."""
    letters, many = letters_of(picture), 0
    for above in product(letters, repeat=len(picture)):
        able = 1
        for column in range(len(picture[0])):
            line = tuple(signs[column] for signs in picture)
            able *= sum(is_shown(tuple(line), above + (letter,)) for letter in letters)
        many += able
    return many


class Told(unittest.TestCase):
    def test_against_all_colours(self):
        for at, board in enumerate(tiny_boards()):
            if len(board) < 4:
                for picture in all_tables(board.rows, board.columns, "abc.x"):
                    self.assertEqual(told_colours(board, picture), plain_told(board, picture, "abcd"))
            elif at % 3 == 0:
                for seed in range(4):
                    colours = mixed_colours(4, seed + at, "abc")
                    picture = plain_seen(board, colours)
                    self.assertEqual(told_colours(board, picture), plain_told(board, picture, "abcd"))
                picture = mixed_picture(board.rows, board.columns, at, "ab.x")
                self.assertEqual(told_colours(board, picture), plain_told(board, picture, "abc"))

    def test_larger_boards_tell_what_lies_over_another_one(self):
        for board in larger_boards():
            for seed, letters in enumerate(("ab", LETTERS)):
                colours = mixed_colours(len(board), seed, letters)
                over = {row for row, signs in enumerate(board.cells) if ">" in signs}
                over |= {board.rows + at for at in range(board.columns) if any(signs[at] == "<" for signs in board.cells)}
                wanted = tuple(colour if thread in over else None for thread, colour in enumerate(colours))
                self.assertEqual(told_colours(board, plain_seen(board, colours)), wanted)

    def test_none_where_one_thread_would_need_two(self):
        self.assertIsNone(told_colours(Board((">>",)), ("ab",)))
        self.assertIsNone(told_colours(Board(("<", "<")), ("a", "e")))
        self.assertEqual(told_colours(Board((">>",)), ("aa",)), ("a", None, None))
        self.assertEqual(told_colours(Board(("<>", "<.")), ("ab", "a.")), ("b", None, "a", None))

    def test_gaps_and_knots_are_shown_as_they_are(self):
        for sign, shown in product(".<>x", "ae.x"):
            wanted = None
            if sign == shown:
                wanted = (None, None)
            elif sign in "<>" and shown in "ae":
                wanted = (shown, None) if sign == ">" else (None, shown)
            self.assertEqual(told_colours(Board((sign,)), (shown,)), wanted)
        self.assertEqual(told_colours(Board(("xxxxx",) * 5), ("xxxxx",) * 5), (None,) * 10)
        self.assertEqual(told_colours(Board((".....",) * 5), (".....",) * 5), (None,) * 10)

    def test_a_picture_of_another_size(self):
        board = Board((">x<", ".<x"))
        for rows, columns in SIZES:
            picture = ("x" * columns,) * rows
            if (rows, columns) == (2, 3):
                self.assertIsNone(told_colours(board, picture))
            else:
                with self.assertRaises(BadPicture):
                    told_colours(board, picture)


class AllColours(unittest.TestCase):
    def test_against_all_colours(self):
        for rows, columns in ((1, 1), (1, 2), (2, 1), (1, 3), (3, 1), (2, 2)):
            for picture in list(all_tables(rows, columns, "abc.x"))[:: 1 if rows * columns < 3 else 3]:
                letters = letters_of(picture)
                wanted = [colours for colours in all_colours(rows + columns, letters) if is_shown(picture, colours)]
                self.assertEqual(colours_for(picture), wanted if letters else [])

    def test_larger_pictures_of_two_or_three_letters(self):
        many = 0
        for rows, columns in SIZES:
            if rows + columns > 8:
                continue
            for seed, signs in enumerate(("ab", "ab.x", "ab", "abc", "abc.", "c..d")):
                picture = mixed_picture(rows, columns, seed, signs)
                letters = letters_of(picture)
                wanted = [other for other in all_colours(rows + columns, letters) if is_shown(picture, other)]
                if not letters:
                    self.assertEqual(colours_for(picture), [])
                elif len(wanted) <= 2000:
                    self.assertEqual(colours_for(picture), wanted)
                    many += 1
        self.assertGreater(many, 50)

    def test_five_by_five(self):
        for seed in range(20):
            colours = mixed_colours(10, seed, "bd")
            picture = plain_seen(Board(("<><><", "><><>", "<<>><", ">.<x>", "><>.<")), colours)
            if letters_of(picture) == ["b", "d"]:
                wanted = [other for other in all_colours(10, "bd") if is_shown(picture, other)]
                self.assertIn(colours, wanted)
                self.assertEqual(colours_for(picture), wanted)

    def test_none_without_letters(self):
        for rows, columns in SIZES:
            for signs in (".", "x", ".x"):
                self.assertEqual(colours_for(mixed_picture(rows, columns, 3, signs)), [])

    def test_none_by_which_each_cell_is_shown(self):
        self.assertEqual(colours_for(("abc", "bca", "cab")), [])
        self.assertEqual(colours_for(("abcde", "bcdea", "cdeab", "deabc", "eabcd")), [])

    def test_letters_of_the_picture_alone(self):
        self.assertEqual(colours_for(("e.",)), [("e", "e", "e")])
        self.assertEqual(colours_for(("aaaaa",) * 5), [("a",) * 10])
        self.assertEqual(len(colours_for(("d...", "...b"))), 3 * 3 * 2 * 2)

    def test_the_most_that_are_told(self):
        picture = ("c....", "eb...", "...ae", "..d..")
        made = colours_for(picture)
        self.assertEqual(len(made), 1989)
        self.assertEqual(made, sorted(set(made)))
        self.assertTrue(all(is_shown(picture, colours) for colours in made))
        just_more = ("b...", ".ae.", ".acc", ".ad.", "b...")
        self.assertEqual(plain_many(just_more), 2001)
        for picture in (just_more, ("abcde",) * 5, ("abc..",) + (".....",) * 4):
            with self.assertRaises(TooMany) as caught:
                colours_for(picture)
            self.assertEqual(caught.exception.most, 2000)


class Dyed(unittest.TestCase):
    def test_against_all_colours(self):
        for picture, colours in list(small_pictures())[::9]:
            self.assertEqual(dyed(picture, colours), plain_dyed(picture, colours, "abcd"))

    def test_a_few_with_all_letters(self):
        for rows, columns in ((1, 3), (2, 2), (2, 3), (3, 2)):
            for seed in range(8):
                picture = mixed_picture(rows, columns, seed, ("ab", "abc", "abcde", "aabc.", "cde")[seed % 5])
                colours = mixed_colours(rows + columns, seed, LETTERS)
                self.assertEqual(dyed(picture, colours), plain_dyed(picture, colours, LETTERS))

    def test_larger_pictures_of_two_letters(self):
        for picture, colours in larger_pictures():
            if len(colours) <= 8 and set(letters_of(picture)) <= {"a", "b"} and set(colours) <= {"a", "b"}:
                self.assertEqual(dyed(picture, colours), plain_dyed(picture, colours, "ab"))
        for seed in range(6):
            picture, colours = mixed_picture(5, 5, seed, "ab"), mixed_colours(10, seed, "ab")
            self.assertEqual(dyed(picture, colours), plain_dyed(picture, colours, "ab"))

    def test_larger_pictures_that_some_colours_show(self):
        for rows, columns in SIZES:
            for seed, letters in enumerate(("abc", LETTERS)):
                colours = mixed_colours(rows + columns, seed, letters)
                picture = plain_seen(Board(mixed_picture(rows, columns, seed, "<><>.x")), colours)
                self.assertEqual(dyed(picture, colours), ())
                # With one thread dyed the other way, that one alone is enough.
                for thread in range(rows + columns):
                    other = colours[:thread] + ("e" if colours[thread] != "e" else "a",) + colours[thread + 1:]
                    lot = dyed(picture, other)
                    self.assertLessEqual((len(lot), lot), (1, (thread,)))
                    self.assertEqual(lot == (), plain_wrong(picture, other) == [])

    def test_the_lot_is_enough_and_no_smaller_one_is(self):
        for rows, columns in ((3, 3), (4, 2), (2, 4)):
            for seed in range(4):
                picture, colours = mixed_picture(rows, columns, seed, "abc.x."), mixed_colours(rows + columns, seed, "abc")
                lot = dyed(picture, colours)
                able = [
                    some for some in all_lots(Board(("." * columns,) * rows))
                    if lot is None or (len(some), some) <= (len(lot), lot)
                    if self.can_be_shown(picture, colours, some)
                ]
                self.assertEqual(able, [] if lot is None else [lot])

    def can_be_shown(self, picture, colours, lot):
        """Whether some colours for the threads of a lot show each cell."""
        letters = letters_of(picture)
        return any(
            is_shown(picture, tuple(
                dict(zip(lot, some)).get(thread, colour) for thread, colour in enumerate(colours)
            ))
            for some in product(letters, repeat=len(lot))
        )

    def test_without_letters_and_none(self):
        for rows, columns in SIZES:
            self.assertEqual(dyed(mixed_picture(rows, columns, 1, ".x"), ("c",) * (rows + columns)), ())
        self.assertIsNone(dyed(("abc", "bca", "cab"), ("a",) * 6))
        self.assertIsNone(dyed(("abcde", "bcdea", "cdeab", "deabc", "eabcd"), ("a", "b", "c", "d", "e") * 2))

    def test_the_least_of_the_smallest(self):
        self.assertEqual(dyed(("a",), ("b", "c")), (0,))
        self.assertEqual(dyed(("aa", "aa"), ("b",) * 4), (0, 1))
        self.assertEqual(dyed(("aaa", "aaa"), ("b",) * 5), (0, 1))
        self.assertEqual(dyed(("aa", "aa", "aa"), ("b",) * 5), (3, 4))
        self.assertEqual(dyed(("ab", "ab"), ("c",) * 4), (2, 3))
        self.assertEqual(dyed(("abcde",) * 5, ("a",) * 10), (6, 7, 8, 9))


if __name__ == "__main__":
    unittest.main()
