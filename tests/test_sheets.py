"""Points 55 and 56: a board with a load and strengths as a text, and back."""

import unittest

from plain import five_by_five, larger_boards, tiny_boards
from plainloads import mixed_load, mixed_strengths

from wovenframes.boards import Board
from wovenframes.errors import BadBoard, BadLoad, BadStrengths, InvalidText
from wovenframes.sheets import read, write

BOARD = Board((">x", ".<"))
LOAD = (2, -1, -1, 0)
STRENGTHS = (1, 2, 3, 4)
TEXT = "row >x\nrow .<\nload 2 -1 -1 0\nstrengths 1 2 3 4"


def some_sheets():
    for seed, board in enumerate([*list(tiny_boards())[::2], *larger_boards(), *five_by_five()]):
        yield board, mixed_load(board, seed, (2, 20)[seed % 2]), mixed_strengths(board, seed)


class Write(unittest.TestCase):
    def test_line_by_line(self):
        for board, load, strengths in some_sheets():
            lines = [f"row {signs}" for signs in board.cells]
            lines.append("load " + " ".join(repr(number) for number in load))
            lines.append(" ".join(["strengths", *(repr(number) for number in strengths)]))
            self.assertEqual(write(board, load, strengths), "\n".join(lines))

    def test_some_texts(self):
        self.assertEqual(write(BOARD, LOAD, STRENGTHS), TEXT)
        self.assertEqual(write(Board((".",)), (0, 0), ()), "row .\nload 0 0\nstrengths")
        self.assertEqual(write(Board(("x",)), (20, -20), (9, 0)), "row x\nload 20 -20\nstrengths 9 0")

    def test_wrong_arguments(self):
        for board in (None, 0, "", (">x", ".<"), [], {}):
            with self.assertRaises(BadBoard):
                write(board, None, None)
        for load in (None, 0, "2", [2, -1, -1, 0], (2, -1, -1), (2, -1, -1, 1), (21, -21, 0, 0), (True, -1, 0, 0), {}, BOARD):
            for strengths in (STRENGTHS, None):
                with self.assertRaises(BadLoad):
                    write(BOARD, load, strengths)
        for strengths in (None, 0, "1", [1, 2, 3, 4], (1, 2, 3), (1, 2, 3, 4, 5), (10, 0, 0, 0), (-1, 0, 0, 0), (True, 0, 0, 0)):
            with self.assertRaises(BadStrengths):
                write(BOARD, LOAD, strengths)


class Read(unittest.TestCase):
    def test_what_is_written_is_read_back_the_same(self):
        for board, load, strengths in some_sheets():
            text = write(board, load, strengths)
            told = read(text)
            self.assertEqual(told, (board, load, strengths))
            self.assertEqual([part.__class__ for part in told], [Board, tuple, tuple])
            self.assertEqual(write(*told), text)
            self.assertEqual(read(text=text), told)

    def test_spaces_at_the_ends_and_further_ones_between(self):
        for board, load, strengths in list(some_sheets())[::5]:
            text = write(board, load, strengths)
            for other in (text.replace(" ", "   "), text.replace("\n", " \n  "), " " + text + "  "):
                self.assertEqual(read(other), (board, load, strengths))

    def test_each_number(self):
        for number in range(-20, 21):
            self.assertEqual(read(f"row x\nload {number} {-number}\nstrengths 0 9")[1], (number, -number))
        for number in range(10):
            self.assertEqual(read(f"row x\nload 0 0\nstrengths {number} {9 - number}")[2], (number, 9 - number))


class Faults(unittest.TestCase):
    def check(self, text, line, word):
        with self.subTest(text=text), self.assertRaises(InvalidText) as caught:
            read(text)
        self.assertEqual((caught.exception.line, caught.exception.word), (line, word))

    def test_first_words(self):
        for word in ("Row", "rows", "ro", "ROW", ".", ">x", "0", "strength", "loads", "row:", "row\t>x", "\trow", "row\u00a0>x",
                     "-", "row\r", "\ufeffrow"):
            self.check(word, 1, 1)
            self.check(f"{word} >x\nrow .<", 1, 1)
            self.check(f"row >x\n{word} .<", 2, 1)
            self.check(f"row >x\nrow .<\nload 2 -1 -1 0\n  {word} 1 2 3 4", 4, 1)
        self.check("load 0 0", 1, 1)
        self.check("strengths", 1, 1)
        self.check("row x\nstrengths 0 0", 2, 1)
        self.check("row x\nload 0 0\nload 0 0", 3, 1)
        self.check("row x\nload 0 0\nrow x", 3, 1)
        self.check(TEXT + "\nrow >x", 5, 1)
        self.check(TEXT + "\nload 2 -1 -1 0", 5, 1)
        self.check(TEXT + "\nstrengths 1 2 3 4", 5, 1)
        self.check(TEXT + "\nanything", 5, 1)

    def test_one_to_five_rows(self):
        for many in range(1, 6):
            text = "row .\n" * many + "load" + " 0" * (many + 1) + "\nstrengths"
            self.assertEqual(read(text)[0], Board((".",) * many))
        self.check("row .\n" * 6 + "load" + " 0" * 7 + "\nstrengths", 6, 1)
        self.check("row .\n" * 5 + "row", 6, 1)

    def test_cells(self):
        for word in ("a", ">a", "......", "X", "0", ".-", "<>\t", ">\r", "row", "xxxxxx"):
            self.check(f"row {word}", 1, 2)
            self.check(f"row {word} x", 1, 2)
            self.check(f"row >x\nrow {word}", 2, 2)
        for word in (".", "...", ".....", "......"):
            self.check(f"row >x\nrow {word}", 2, 2)
        self.check("row", 1, 2)
        self.check("  row  ", 1, 2)
        self.check("row >x\nrow", 2, 2)
        self.check("row >x .<", 1, 3)
        self.check("row > x", 1, 3)
        self.check("row >x\nrow .< 0 0", 2, 3)
        for many in range(1, 6):
            self.assertEqual(read("row " + "." * many + "\nload" + " 0" * (many + 1) + "\nstrengths")[0].columns, many)

    NO_NUMBERS = (
        "+1", "01", "00", "-0", "-01", "1.0", "1.", "1e0", "0x1", "1_0", "--1", "-", "- 1", "a", "x", "1,", "\t1", "1\t", "\u0661",
        "\u00b2", "\u22121", "True", "None", "''", "9" * 5000, "-" + "9" * 5000, "\uff11",
    )

    def test_numbers_of_a_load(self):
        rows = "row >x\nrow .<\n"
        for word in (*self.NO_NUMBERS, "21", "-21", "100"):
            self.check(f"{rows}load {word} 0 0 0", 3, 2)
            self.check(f"{rows}load 0 0 {word} 0", 3, 4)
            self.check(f"{rows}load 0 {word} 0 {word}", 3, 3)
            self.check(f"{rows}load 1 0 0 {word}", 3, 5)
        for many in range(4):
            self.check(f"{rows}load" + " 0" * many, 3, many + 2)
            self.check(f"{rows}load" + " 7" * many + "  ", 3, many + 2)
        self.check(f"{rows}load 0 0 0 0 0", 3, 6)
        self.check(f"{rows}load 2 -1 -1 0 strengths 1 2 3 4", 3, 6)

    def test_the_sum_of_a_load(self):
        rows = "row >x\nrow .<\n"
        self.check(f"{rows}load 2 -1 -1 1", 3, 5)
        self.check(f"{rows}load 20 20 20 20", 3, 5)
        # The last number is ahead of a further word, and behind one that is no number.
        self.check(f"{rows}load 2 -1 -1 1 -1", 3, 5)
        self.check(f"{rows}load 2 -1 -1 1 x", 3, 5)
        self.check(f"{rows}load 2 -1 x 1", 3, 4)
        self.check("row .\nload 1 0", 2, 3)

    def test_numbers_of_strengths(self):
        ahead = "row >x\nrow .<\nload 2 -1 -1 0\n"
        for word in (*self.NO_NUMBERS, "10", "-1", "20", "-9"):
            self.check(f"{ahead}strengths {word} 0 0 0", 4, 2)
            self.check(f"{ahead}strengths 0 0 {word} {word}", 4, 4)
            self.check(f"{ahead}strengths 0 0 0 {word}", 4, 5)
            self.check(f"{ahead}strengths 0 0 0 0 {word}", 4, 6)
        for many in range(4):
            self.check(f"{ahead}strengths" + " 9" * many, 4, many + 2)
        self.check(f"{ahead}strengths 1 2 3 4 5", 4, 6)
        self.check("row .\nload 0 0\nstrengths 0", 3, 2)
        self.assertEqual(read("row .\nload 0 0\nstrengths ")[2], ())

    def test_lines_without_words(self):
        lines = TEXT.split("\n")
        for at in range(5):
            for empty in ("", " ", "    "):
                self.check("\n".join(lines[:at] + [empty] + lines[at:]), at + 1, 1)
        self.check("", 1, 1)
        self.check("   ", 1, 1)
        self.check("\n", 1, 1)
        self.check(TEXT + "\n", 5, 1)
        self.check("\n" + TEXT, 1, 1)

    def test_lines_that_lack(self):
        lines = TEXT.split("\n")
        for many in range(1, 4):
            self.check("\n".join(lines[:many]), many + 1, 1)
        self.check("row >x\nload 1 -1 0", 3, 1)
        self.check("row .\n" * 4 + "row .", 6, 1)

    def test_the_first_line_tells(self):
        self.check("row >x\nrow .\nload 1\nstrengths 99", 2, 2)
        self.check("row >x\nrow .<\nload 1\nstrengths 99\nmore", 3, 3)
        self.check("row a\nload", 1, 2)
        self.check("row >x\nrow .<\nload 2 -1 -1 0\nstrengths 99\nmore", 4, 2)
        # Other ends of a line are none.
        self.check("row .\r\nload 0 0\r\nstrengths", 1, 2)
        self.check("row .\x0bload 0 0", 1, 2)
        self.check("row .\u2028load 0 0", 1, 2)

    def test_each_word_put_wrong(self):
        lines = [line.split(" ") for line in TEXT.split("\n")]
        for at, words in enumerate(lines):
            for place in range(len(words)):
                other = [list(line) for line in lines]
                other[at][place] = "?"
                self.check("\n".join(" ".join(line) for line in other), at + 1, place + 1)
            other = [list(line) for line in lines]
            other[at].append("?")
            self.check("\n".join(" ".join(line) for line in other), at + 1, len(words) + 1)

    def test_what_is_no_text(self):
        for text in (None, 0, True, (), [], ["row ."], {}, b"row .", BOARD):
            self.check(text, 1, 1)


if __name__ == "__main__":
    unittest.main()
