"""Colours by which a picture is shown: those that a board tells, all that there are, and the fewest to be changed."""

from wovenframes.boards import check_board
from wovenframes.errors import BadPicture, TooMany
from wovenframes.lots import in_order
from wovenframes.pictures import LETTERS, cells_of, check_picture, check_shown, sign_at, threads_at
from wovenframes.values import first_of, picks

MOST_COLOURS = 2000


def told_colours(board, picture):
    """The tuple of the colour of each thread with which the board shows a picture, None for one that shows none.

    None if there are no such colours.
    """
    check_board(board)
    check_picture(picture)
    if (len(picture), len(picture[0])) != (board.rows, board.columns):
        raise BadPicture()
    told = [None] * len(board)
    for cell in cells_of(picture):
        sign, shown = sign_at(board.cells, cell), sign_at(picture, cell)
        if sign in (".", "x") or shown in (".", "x"):
            if sign != shown:
                return None
        else:
            row, across = threads_at(picture, cell)
            over = row if sign == ">" else across
            if told[over] not in (None, shown):
                return None
            told[over] = shown
    return tuple(told)


def letters_in(picture):
    """The ascending list of the letters that stand in a picture."""
    return sorted({sign for line in picture for sign in line if sign in LETTERS})


def needed(picture, above, column):
    """The ascending list of the colours that a column must have all if the rows have some colours."""
    return sorted({
        line[column] for line, colour in zip(picture, above) if line[column] in LETTERS and line[column] != colour
    })


def columns_for(picture, letters, above):
    """The ascending list of the colours of the columns, of some letters, with which the rows show a picture."""
    able = []
    for column in range(len(picture[0])):
        must = needed(picture, above, column)
        # A column without a need can have any letter, one with a need for two none.
        able.append([letter for letter in letters if must in ([], [letter])])
    return picks(able)


def colours_for(picture):
    """The ascending list of all colours, of letters in the picture alone, by which each cell can be shown."""
    check_picture(picture)
    letters = letters_in(picture)
    found = []
    for above in picks([letters] * len(picture)):
        found.extend([above + beneath for beneath in columns_for(picture, letters, above)])
        if len(found) > MOST_COLOURS:
            raise TooMany(MOST_COLOURS)
    return found


def changed_lot(picture, colours, above):
    """The lot of the threads whose colours must be changed if the rows are to have some colours, or None."""
    lot = [row for row, colour in enumerate(above) if colour != colours[row]]
    for column in range(len(picture[0])):
        must = needed(picture, above, column)
        across = len(picture) + column
        if len(must) > 1:
            return None
        if must not in ([], [colours[across]]):
            lot.append(across)
    return tuple(lot)


def dyed(picture, colours):
    """The least of the smallest lots of threads that need other colours so that each cell can be shown, or None."""
    check_shown(picture, colours)
    letters = letters_in(picture)
    # A colour that is not in the picture shows nothing: a row keeps its own, or gets one that is.
    able = [sorted(set([colour] + letters)) for colour in colours[:len(picture)]]
    lots = [changed_lot(picture, colours, above) for above in picks(able)]
    return first_of(in_order([lot for lot in lots if lot is not None]))
