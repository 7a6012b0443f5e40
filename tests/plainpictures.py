"""Pictures and colours for the tests, and answers found by plain search straight from the document's words.

Nothing here calls the program, but for `Board` itself.
"""

from itertools import product

from plain import mixed_board, plain_parts
from plainloads import mixed_numbers

from wovenframes.boards import Board

LETTERS = "abcde"
SIZES = tuple(product(range(1, 6), repeat=2))


def all_tables(rows, columns, signs):
    """All tuples of so many strings of one length, of some signs."""
    for text in product(signs, repeat=rows * columns):
        line = "".join(text)
        yield tuple(line[row * columns:(row + 1) * columns] for row in range(rows))


def all_colours(many, letters):
    """All colours of some letters for so many threads."""
    return list(product(letters, repeat=many))


def mixed_picture(rows, columns, seed, signs):
    """A picture whose signs look thrown, and are the same in each run."""
    places = mixed_numbers(seed * 17 + rows * 5 + columns, rows * columns, 0, len(signs) - 1)
    text = "".join(signs[place] for place in places)
    return tuple(text[row * columns:(row + 1) * columns] for row in range(rows))


def mixed_colours(many, seed, letters):
    return tuple(letters[place] for place in mixed_numbers(seed * 13 + many, many, 0, len(letters) - 1))


def plain_seen(board, colours):
    """What is seen in front, cell by cell."""
    shown = []
    for row, signs in enumerate(board.cells):
        line = ""
        for column, sign in enumerate(signs):
            if sign == ">":
                line += colours[row]
            elif sign == "<":
                line += colours[board.rows + column]
            else:
                line += sign
        shown.append(line)
    return tuple(shown)


def signs_that_show(picture, colours, row, column):
    """The signs of a board of one cell by which the colours of its two threads show a cell of a picture."""
    two = (colours[row], colours[len(picture) + column])
    return [sign for sign in ".<>x" if plain_seen(Board((sign,)), two) == (picture[row][column],)]


def all_cells(picture):
    return [(row, column) for row in range(len(picture)) for column in range(len(picture[0]))]


def plain_wrong(picture, colours):
    return [cell for cell in all_cells(picture) if signs_that_show(picture, colours, *cell) == []]


def plain_free(picture, colours):
    return [cell for cell in all_cells(picture) if signs_that_show(picture, colours, *cell) == ["<", ">"]]


def as_table(picture, signs):
    """The signs of all cells, in their order, as strings of the length of those of a picture."""
    text, wide = "".join(signs), len(picture[0])
    return tuple(text[start:start + wide] for start in range(0, len(text), wide))


def plain_weaves(picture, colours):
    """The cells of all weaves: of each cell, for itself, all signs that show it."""
    able = [signs_that_show(picture, colours, *cell) for cell in all_cells(picture)]
    return [as_table(picture, signs) for signs in product(*able)]


def plain_loose(picture, colours, knotted=()):
    """The board with "x" in some cells, and in each that is free or cannot be shown, and in the others what shows it."""
    signs = []
    for cell in all_cells(picture):
        able = signs_that_show(picture, colours, *cell)
        signs.append(able[0] if len(able) == 1 and cell not in knotted else "x")
    return Board(as_table(picture, signs))


def plain_holds(board):
    return len(plain_parts(board)) == 1


def plain_pieces(cells):
    """The ascending list of the lots of threads that are joined: lots that touch are put together while there are any."""
    rows = len(cells)
    lots = [{thread} for thread in range(rows + len(cells[0]))]
    for row, column in all_cells(cells):
        if cells[row][column] != ".":
            one = next(lot for lot in lots if row in lot)
            other = next(lot for lot in lots if rows + column in lot)
            if one is not other:
                lots.remove(other)
                one |= other
    return sorted(tuple(sorted(lot)) for lot in lots)


def without(cells, cell):
    """The cells with "." in one of them."""
    return tuple(
        "".join("." if (row, column) == cell else sign for column, sign in enumerate(signs))
        for row, signs in enumerate(cells)
    )


def plain_is_bridge(picture, cell):
    """Whether the two threads of a cell are not joined when it is taken out."""
    row, across = cell[0], len(picture) + cell[1]
    return not any(row in lot and across in lot for lot in plain_pieces(without(picture, cell)))


def small_pictures():
    """Pictures of at most four cells with colours, in which cells are shown, free and not to be shown."""
    for rows, columns in ((1, 1), (1, 2), (2, 1)):
        for picture in all_tables(rows, columns, "abc.x"):
            for colours in all_colours(rows + columns, "abd"):
                yield picture, colours
    for rows, columns in ((1, 3), (3, 1), (2, 2)):
        for at, picture in enumerate(all_tables(rows, columns, "ab.x")):
            for colours in all_colours(4, "ab")[at % 3::3]:
                yield picture, colours


def larger_pictures():
    """Pictures of all sizes with colours: some show all cells in one way each, some leave cells free or wrong."""
    for rows, columns in SIZES:
        many = rows + columns
        apart = ("a",) * rows + ("b",) * columns
        for seed, signs in enumerate(("ab", "ab", "ab.", "aabbx", "aaab")):
            yield mixed_picture(rows, columns, seed, signs), apart
        for seed, letters in enumerate(("aab", "abb", "aaab")):
            colours = mixed_colours(many, seed, letters)
            yield mixed_picture(rows, columns, seed + 5, "aab"), colours
            board = mixed_board(rows, columns, seed, ("<>", "<>x", ".<>")[seed])
            yield plain_seen(board, colours), colours
            board = mixed_board(rows, columns, seed + 7, "<>>")
            yield plain_seen(board, mixed_colours(many, seed, LETTERS)), mixed_colours(many, seed, LETTERS)
        yield ("a" * columns,) * rows, ("a",) * many
        yield ("." * columns,) * rows, ("a",) * many
        yield ("x" * columns,) * rows, apart
