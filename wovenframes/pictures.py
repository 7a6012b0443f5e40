"""Pictures: what a woven board shows in its colours, and the boards that show a picture."""

from wovenframes.boards import SIGNS, Board, check_board, turned
from wovenframes.errors import BadColours, BadPicture, NotShown, TooMany
from wovenframes.values import first_of, is_table, picks

LETTERS = ("a", "b", "c", "d", "e")
PICTURE_SIGNS = ("a", "b", "c", "d", "e", ".", "x")
MOST_WEAVES = 2000


def check_picture(value):
    """Raise BadPicture if a value is no picture."""
    if not is_table(value, PICTURE_SIGNS):
        raise BadPicture()


def check_colours(threads, value):
    """Raise BadColours if a value is no tuple of a letter for each of so many threads."""
    if not isinstance(value, tuple) or len(value) != threads or not all([colour in LETTERS for colour in value]):
        raise BadColours()


def check_shown(picture, colours):
    """Raise the error of the first of these that is wrong."""
    check_picture(picture)
    check_colours(len(picture) + len(picture[0]), colours)


def cells_of(picture):
    """The ascending list of all cells of a picture."""
    return [(row, column) for row in range(len(picture)) for column in range(len(picture[0]))]


def sign_at(picture, cell):
    """The letter or sign in a cell of a picture."""
    return picture[cell[0]][cell[1]]


def threads_at(picture, cell):
    """The pair of the threads, row and column, of a cell of a picture."""
    return (cell[0], len(picture) + cell[1])


def face(sign, above, below):
    """What a cell shows: by ">" the one colour, by "<" the other one, otherwise its sign."""
    if sign == ">":
        return above
    return below if sign == "<" else sign


def seen(board, colours):
    """The picture that a woven board and colours show in front."""
    check_board(board)
    check_colours(len(board), colours)
    return tuple([
        "".join([face(sign, colour, other) for sign, other in zip(signs, colours[board.rows:])])
        for signs, colour in zip(board.cells, colours)
    ])


def seen_behind(board, colours):
    """The picture that a woven board and colours show from behind."""
    # From behind the other thread of each cell lies over, as if each step led the other way.
    return tuple([line[::-1] for line in seen(turned(board), colours)])


def choices(picture, colours, cell):
    """The ascending list of the signs by which a cell is shown: none if it cannot be, two if it is free."""
    row, across = threads_at(picture, cell)
    shown = sign_at(picture, cell)
    return [sign for sign in SIGNS if face(sign, colours[row], colours[across]) == shown]


def wrong_cells(picture, colours):
    """The ascending list of the cells that cannot be shown."""
    return [cell for cell in cells_of(picture) if not choices(picture, colours, cell)]


def first_wrong(picture, colours):
    """The least cell that cannot be shown, or None."""
    check_shown(picture, colours)
    return first_of(wrong_cells(picture, colours))


def free_cells(picture, colours):
    """The ascending list of the cells that are the colour of both of their threads."""
    check_shown(picture, colours)
    return [cell for cell in cells_of(picture) if len(choices(picture, colours, cell)) == 2]


def as_board(picture, signs):
    """The board of the size of a picture with some signs, in the order of its cells."""
    wide = len(picture[0])
    text = "".join(signs)
    return Board(tuple([text[start:start + wide] for start in range(0, len(text), wide)]))


def loose_board(picture, colours, knotted):
    """The board with "x" in some cells, in the free ones and the wrong ones, and in each other one what shows it."""
    signs = []
    for cell in cells_of(picture):
        able = choices(picture, colours, cell)
        signs.append("x" if cell in knotted or len(able) != 1 else able[0])
    return as_board(picture, signs)


def free_board(picture, colours):
    """The board with "x" in each free cell, and in each other one what it is in all weaves."""
    if first_wrong(picture, colours) is not None:
        raise NotShown()
    return loose_board(picture, colours, ())


def weaves(picture, colours):
    """The ascending list of the cells of all weaves."""
    if first_wrong(picture, colours) is not None:
        return []
    if 1 << len(free_cells(picture, colours)) > MOST_WEAVES:
        raise TooMany(MOST_WEAVES)
    return [
        as_board(picture, signs).cells
        for signs in picks([choices(picture, colours, cell) for cell in cells_of(picture)])
    ]
