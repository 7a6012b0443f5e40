"""Texts of a board with a load and strengths."""

from wovenframes.boards import Board, check_board, is_cells, steps
from wovenframes.carrying import GREATEST_LOAD, check_load
from wovenframes.errors import InvalidText
from wovenframes.strengths import GREATEST_STRENGTH, check_strengths
from wovenframes.values import LONGEST_SIDE


def line_of(word, things):
    """The line of a word and of some things behind it."""
    return " ".join([word] + [str(thing) for thing in things])


def write(board, load, strengths):
    """The text of a board, a load and strengths."""
    check_board(board)
    check_load(board, load)
    check_strengths(board, strengths)
    rows = [line_of("row", [signs]) for signs in board.cells]
    return "\n".join(rows + [line_of("load", load), line_of("strengths", strengths)])


def words_of(line):
    """The list of the words of a line."""
    return [word for word in line.split(" ") if word != ""]


def kinds_behind(rows, load, strengths):
    """The list of the first words of a line that can stand behind some rows, and a load and strengths or None."""
    if strengths is not None:
        return []
    if load is not None:
        return ["strengths"]
    return (["row"] if len(rows) < LONGEST_SIDE else []) + (["load"] if rows else [])


def read_row(at, words, rows):
    """The cells of a line of a row behind some others."""
    if len(words) < 2 or not is_cells((words[1],)) or (rows and len(words[1]) != len(rows[0])):
        raise InvalidText(at, 2)
    if len(words) > 2:
        raise InvalidText(at, 3)
    return words[1]


def read_numbers(at, words, many, least, most):
    """The tuple of so many numbers, from the least to the most one, that a line has behind its first word."""
    # A word is compared with how Python writes each number, since int takes other ways to write one, too.
    numbers = {str(number): number for number in range(least, most + 1)}
    for place, word in enumerate(words[1:many + 1], start=2):
        if word not in numbers:
            raise InvalidText(at, place)
    if len(words) <= many:
        raise InvalidText(at, len(words) + 1)
    return tuple([numbers[word] for word in words[1:many + 1]])


def check_end(at, words, many):
    """Raise InvalidText if a line has a word behind so many behind its first one."""
    if len(words) > many + 1:
        raise InvalidText(at, many + 2)


def read_load(at, words, board):
    """The load of a line."""
    load = read_numbers(at, words, len(board), -GREATEST_LOAD, GREATEST_LOAD)
    if sum(load) != 0:
        raise InvalidText(at, len(board) + 1)
    check_end(at, words, len(board))
    return load


def read_strengths(at, words, board):
    """The strengths of a line."""
    many = len(steps(board))
    strengths = read_numbers(at, words, many, 0, GREATEST_STRENGTH)
    check_end(at, words, many)
    return strengths


def read(text):
    """The tuple of the board, the load and the strengths of a text."""
    if not isinstance(text, str):
        raise InvalidText(1, 1)
    rows = []
    load = strengths = None
    lines = text.split("\n")
    for at, line in enumerate(lines, start=1):
        words = words_of(line)
        if not words or words[0] not in kinds_behind(rows, load, strengths):
            raise InvalidText(at, 1)
        if words[0] == "row":
            rows.append(read_row(at, words, rows))
        elif words[0] == "load":
            load = read_load(at, words, Board(tuple(rows)))
        else:
            strengths = read_strengths(at, words, Board(tuple(rows)))
    if strengths is None:
        raise InvalidText(len(lines) + 1, 1)
    return (Board(tuple(rows)), load, strengths)
