"""Point 1: wrong inputs for each argument, and the error of the first one that is wrong."""

import unittest
from itertools import combinations

from wovenframes import (
    boards, builders, carrying, chains, deeds, drawings, dyes, errors, firmness, holdweaves, joins, lattices, loadcuts,
    lostlogs, lots, mends, moments, motions, orders, pictures, plans, prices, readings, sheets, standing, stopped, strengths,
    surely, trials, workorders,
)
from wovenframes.boards import Board
from wovenframes.desks import Desk

BOARD = Board((">x<", ".<x"))

PLAIN = (None, "", "0", "x", [], [0], {}, {0: 0}, (), (0,), ((0,),), BOARD)

BAD_BOARDS = (
    None, True, False, 0, 1, -1, "", ">x<", [], [">x<", ".<x"], {}, {0: BOARD}, (), (">x<", ".<x"), (BOARD,), [BOARD],
    Board, errors.BadBoard(),
)
BAD_THREADS = (*PLAIN, True, False, -1, 5, 6, 10 ** 30, -(10 ** 30))
BAD_ROWS = (*PLAIN, True, False, -1, 2, 3, 10 ** 30)
BAD_COLUMNS = (*PLAIN, True, False, -1, 3, 4, 10 ** 30)
BAD_SIGNS = (
    None, "", "..", "<>", ".<", ">x", ".<>x", "X", " ", "0", 0, 1, True, False, [], ["x"], {}, {"x": 1}, (), ("x",),
    b"x", BOARD,
)
BAD_LOTS = (
    None, True, False, 0, 1, "", "0", [], [0], [0, 1], {}, {0: 1}, (0, 0), (1, 0), (0, 2, 1), (0, 1, 1), (-1,), (-1, 0),
    (5,), (0, 5), (0, 1, 2, 3, 4, 5), (10 ** 30,), (True,), (False,), (0, True), (False, 1), (None,), (0, None), ("0",),
    (0, "1"), ((0,),), ((),), ([0],), ([],), ({},), (0, [1]), BOARD, (BOARD,),
)
# Values that stand where a tuple of integers is asked, whichever: what is told of it is told in the next lines.
NO_NUMBERS = (
    None, True, False, 0, 1, -1, "", "0", "00000", "0000000", [], [0] * 5, [0] * 7, {}, {0: 0}, (), (0,), (0,) * 4,
    (0,) * 6, (0,) * 8, (True,) * 5, (False,) * 5, (False,) * 7, (None,) * 5, (None,) * 7, ("0",) * 5, ("0",) * 7,
    ((0,),) * 5, ((0,),) * 7, ([0],) * 5, ([],) * 7, ({},) * 5, ({},) * 7, ((0, 0, 0, 0, 0),), BOARD, (BOARD,) * 5,
    (BOARD,) * 7,
)
BAD_LOADS = (
    *NO_NUMBERS, (0,) * 7, (0, 0, 0, 0, False), (True, 0, 0, 0, -1), (1, 0, 0, 0, None), (1, 0, 0, 0, "1"),
    (1, -1, 0, 0, ()), (1, -1, 0, [], 0), (1, 0, 0, 0, 0), (0, 0, 0, 0, -1), (20, -19, 0, 0, 0), (21, -21, 0, 0, 0),
    (0, 0, 0, 21, -21), (21, -20, -1, 0, 0), (-21, 20, 1, 0, 0), (10 ** 30, -(10 ** 30), 0, 0, 0), [2, -1, -1, 0, 0],
    (2, -1, -1, 0), (2, -1, -1, 0, 0, 0),
)
BAD_STRENGTHS = (
    *NO_NUMBERS, (0,) * 5, (10, 0, 0, 0, 0, 0, 0), (0, 0, 0, 0, 0, 0, 10), (-1, 0, 0, 0, 0, 0, 0),
    (0, 0, 0, 0, 0, 0, -1), (1, 2, 3, 4, 5, 6, True), (False, 2, 3, 4, 5, 6, 7), (1, 2, 3, None, 5, 6, 7),
    (1, 2, 3, "4", 5, 6, 7), (1, 2, 3, (4,), 5, 6, 7), (1, 2, 3, [4], 5, 6, 7), (10 ** 30,) * 7, [1, 2, 3, 4, 5, 6, 7],
    (1, 2, 3, 4, 5, 6), (1, 2, 3, 4, 5, 6, 7, 8),
)
BAD_MOTIONS = (
    *NO_NUMBERS, (0,) * 7, (10 ** 6 + 1,) * 5, (-(10 ** 6) - 1,) * 5, (0, 0, 1, 0, 0), (0, 0, 0, 0, 1),
    (0, 0, 0, 0, False), (True, 0, 0, 0, 0), (1, 0, 0, None, 0), [0, 0, 0, 0, 0],
)
NO_ANGLES = (
    None, True, False, -1, 10 ** 30, -(10 ** 30), "", "0", "1", [], [0], {}, {0: 0}, (), (0,), BOARD, (BOARD,),
)
BAD_HEIGHTS = (
    None, True, False, 0, 1, -1, "", "ab", {}, {0: 0}, {(): 0}, BOARD, [None], (None,), [()], ((),), ((), 1), [((),)],
    (((), 1, 1),), [[(), 1]], [([], 1)], [((), -1)], [((), True)], [((), None)], [((), "1")], (((2,), 1),),
    [((0, 0), 1)], [((3, 0), 1)], [((0, 3), 1)], [((), 1), None], [((), 10 ** 6 + 1)], [(1, ())], [BOARD],
    [(BOARD, 1)],
)
BAD_LINES = (*PLAIN, True, False, 0, 6, 7, -1, 10 ** 30)
BAD_LISTS_OF_LOTS = (
    None, True, False, 0, 1, "", "ab", {}, {(): 1}, BOARD, [None], [0], (0,), [[]], [[0]], ((1, 0),), [(0, 0)], [(5,)],
    [(), ()], ((), (0,), ()), [(True,)], ((False,),), [("0",)], [(None,)], [{}], [((),)], (BOARD,), [(BOARD,)], [(), 7],
)
BAD_PLACES = (*PLAIN, True, False, -1, 1, 2, 10 ** 30)
BAD_LIFT_ORDERS = (
    *PLAIN, True, False, 1, ((2,), (0, 1, 3, 4)), ((0, 1, 3, 4),), ((0, 1, 3, 4), (2,), ()), [(0, 1, 3, 4), (2,)],
    ((0, 1, 3, 4), (2,), (2,)), ((0, 1, 4, 3), (2,)), ([0, 1, 3, 4], (2,)), ((0, 1, 3, 4), 2), ((0, 1, 3), (4,), (2,)),
    ((0, True, 3, 4), (2,)), ((0, 1, 3, 4), (None,)), ((0, 1, 3, 4), ("2",)), ((0, 1, 3, 4), BOARD), ((0, 1, 2, 3, 4),),
)
BAD_PICTURES = (
    *PLAIN, True, False, 1, "ab", ["ab.", "cxa"], ("",), ("", ""), ("ab.", "cx"), ("ab.", "cxaa"), ("aaaaaa",),
    ("a",) * 6, ("ab.", "cxf"), ("ab.", "cxA"), (">x<", ".<x"), ("ab.", None), ("ab.", 7), ("ab.", ("c", "x", "a")),
    ("ab.", ["c", "x", "a"]), ("ab ", "cxa"), ("ab\n",), (b"a",), (True,), ({},),
)
BAD_COLOURS = (
    *PLAIN, True, False, 1, "abbac", ["a", "b", "b", "a", "c"], ("a",) * 4, ("a",) * 6, ("a", "b", "b", "a", "f"),
    ("A", "b", "b", "a", "c"), ("a", "b", "b", "a", "."), ("x", "b", "b", "a", "c"), ("a", "b", "b", "a", None),
    ("a", "b", "b", "a", ""), ("ab", "b", "b", "a", "c"), ("a", "b", "b", "a", 1), ("a", "b", ("b",), "a", "c"),
    ("a", "b", ["b"], "a", "c"), ("a", "b", {}, "a", "c"), (b"a", "b", "b", "a", "c"), ("a", "b", "b", "a", BOARD),
)
BAD_SHARED = (
    *PLAIN, True, False, 1, [(0, 0)], ((0, 0), (0, 1)), ((0, 0), (1, 0)), ((1, 1), (0, 0)), ((0, 2),), ((2, 0),), ((2, 5),),
    ((-1, 0),), ((0, -1),), ((True, 0),), ((0, False),), ((0, 0, 0),), ([0, 0],), ((0, "0"),), ((0, (0,)),), ((0, None),),
    ((0, 0), (2, 2), (2, 3)), ((0, 0), (2, 2), (3, 2)), ((5, 2),), (BOARD, BOARD), ((0, BOARD),), ((10 ** 30, 0),),
)
BAD_THREAD_ORDERS = (
    *PLAIN, True, False, 1, (2, 3, 4, 0, 1), (0, 1, 2, 3), (0, 1, 2, 3, 4, 5), (0, 0, 2, 3, 4), (0, 1, 2, 2, 4), [0, 1, 2, 3, 4],
    (0, 1, 2, 3, 5), (-1, 1, 2, 3, 4), (False, 1, 2, 3, 4), (0, True, 2, 3, 4), (0, 1, 2, 3, None), (0, 1, 2, 3, "4"),
    (0, 1, 2, 3, (4,)), (0, 2, 1, 3, 4), (0, 1, 2, 3, [4]), (0, 1, 2, 3, BOARD),
)
BAD_MANY = (*PLAIN, True, False, 0, -1, 3, 4, 10 ** 30)
LEAVE = ("leave",)
BAD_BUILDERS = (
    *PLAIN[:8], True, False, 1, (), ((),) * 4, [()], (LEAVE,), ((LEAVE,) * 7,), ([LEAVE],), (LEAVE, ()), (((LEAVE,),),),
    ((("cut", 2, 0),),), ((("cut", 0, 3),),), ((("cut", True, 0),),), ((("fill", 0, 0, "."),),), ((("stand", 5),),),
    ((("stand", True),),), ((("leave", 0),),), ((["leave"],),), ((), None), ((), (None,)), BOARD, (BOARD,),
)
BAD_STATES = (
    *PLAIN, True, False, 1, ((">x<", ".<x"), (0, 0)), [(">x<", ".<x"), (0, 0), (None, None)],
    ((">x<",), (0, 0), (None, None)), (BOARD, (0, 0), (None, None)), (("abc", "abc"), (0, 0), (None, None)),
    ((">x<", ".<x"), (0, 2), (None, None)), ((">x<", ".<x"), (0, -1), (None, None)), ((">x<", ".<x"), (0,), (None, None)),
    ((">x<", ".<x"), (False, 0), (None, None)), ((">x<", ".<x"), [0, 0], (None, None)), ((">x<", ".<x"), (0, 0), (None,)),
    ((">x<", ".<x"), (0, 0), (5, None)), ((">x<", ".<x"), (0, 0), (True, None)), ((">x<", ".<x"), (0, 0), [None, None]),
    ((">x<", ".<x"), (0, 0), ("0", None)), ((">x<", ".<x"), (0, 0), (None, None), ()), ((">x<", ".<x"), None, None),
)
BAD_BUILDER = (*PLAIN, True, False, -1, 2, 3, 10 ** 30)
BAD_ORDERS = (
    *(value for value in PLAIN if value not in ((), (0,))), True, False, 1, [0], (1,), (2,), (-1,), (True,), (False,), (None,),
    ("0",), ([0],), (0, 0), (0, 1), (0, None), (0,) * 19, (BOARD,), (10 ** 30,),
)
BAD_CELLS = (
    *PLAIN, True, False, 1, ">x<.<x", [">x<", ".<x"], (">x<",), (">x<", ".<x", "..."), (">x", ".<"), (">x<.", ".<x."),
    (">x<", ".<"), (">x<", ".<a"), (">x<", None), (">x<", [".<x"]), ("", ""), (BOARD, BOARD), ((">x<", ".<x"),),
)
CUT = ("cut", 0, 0)
NO_CHANGES = (
    *PLAIN, True, False, 1, "cut", ["cut", 0, 0], ("cut",), ("cut", 0), ("cut", 2, 0), ("cut", 0, 3), ("cut", True, 0),
    ("cut", 0, 0, 0), ("fill", 0, 0), ("fill", 0, 0, "."), ("fill", 0, 3, "x"), ("fill", 0, 0, ["x"]), ("stand", 0), LEAVE, (CUT,),
    ("Cut", 0, 0), ("cut", None, 0), ("cut", (0, 0)), ("put", 0, 0, "x"), ("flip",),
)
BAD_CHANGES = (
    *(value for value in PLAIN if value != ()), True, False, 1, [CUT], (CUT,) * 7, (CUT, None), (LEAVE,), (("stand", 0),), (["cut", 0, 0],),
    (CUT, ("cut", 2, 0)), CUT, ((CUT,),),
)
BAD_BREAKS = (
    *(value for value in PLAIN if value != ()), True, False, 1, [(0, 0)], ((1, 0),), ((0, 0), (0, 0)), ((0, 1), (0, 0)), ((2, 0),),
    ((0, 3),), ((0, True),), ((False, 0),), ([0, 0],), ((0, 0, 0),), ((0,),), ((0, "0"),), (None,), ((0, 0), None), (((0, 0),),),
    ((-1, 0),), ((0, -1),), ((10 ** 30, 0),), (BOARD,), ((0, BOARD),), ("00",),
)
TRIAL = ("trial", 0, "+-?+-")
BAD_LOGS = (
    *(value for value in PLAIN if value != ()), True, False, 1, [TRIAL], (TRIAL,) * 13, TRIAL, (TRIAL, None), (["trial", 0, "?????"],),
    (("trial", 5, "?????"),), (("trial", True, "?????"),), (("trial", 0, "????"),), (("trial", 0, "????x"),), (("trial", 0, None),),
    (("mend", 1, 0),), (("mend", 0, 3),), (("mend", 0, True),), (("mend", 0),), (("mend", 0, 0, 0),), (("cut", 0, 0),), (BOARD,),
)
BAD_MOSTS = (*PLAIN, True, False, -1, 3, 4, 10 ** 30)
BAD_DEPTHS = (*PLAIN, True, False, -1, 11, 12, 10 ** 30)
PUT = ("put", 0, 0, "x")
BAD_REPLAYS = (
    *(value for value in PLAIN if value not in ([], ())), True, False, 1, "flip", [PUT] * 31, ["flip"], [["flip"]], PUT, [PUT, None],
    (("put", 2, 0, "x"),), (("put", 0, 3, "x"),), (("put", 0, 0, "y"),), (("put", True, 0, "x"),), (("flip", 0),), (CUT,), (LEAVE,),
    [("flip",), ("put", 0, 2, "x")],
)

# The methods of a desk as calls; its own properties are no calls, and its other methods have no arguments.


def put_on_desk(row, column, sign):
    return Desk(BOARD).put(row=row, column=column, sign=sign)


def strengthen_on_desk(row, column, number):
    return Desk(BOARD).strengthen(row=row, column=column, number=number)


def shift_on_desk(one, other, number):
    return Desk(BOARD).shift(one=one, other=other, number=number)


BAD = {
    "order": (BAD_ORDERS, errors.BadOrder),
    "cells": (BAD_CELLS, errors.BadCells),
    "changes": (BAD_CHANGES, errors.BadDeeds),
    "change": (NO_CHANGES, errors.BadDeed),
    "lost": (BAD_BREAKS, errors.BadBreak),
    "one_break": (BAD_BREAKS, errors.BadBreak),
    "other_break": (BAD_BREAKS, errors.BadBreak),
    "thread": (BAD_THREADS, errors.BadThread),
    "log": (BAD_LOGS, errors.BadLog),
    "most": (BAD_MOSTS, errors.BadMost),
    "depth": (BAD_DEPTHS, errors.BadMany),
    "replays": (BAD_REPLAYS, errors.BadDeeds),
    "desk_number": ((*PLAIN, True, False, -1, 10, 11, 10 ** 30), errors.BadNumber),
    "desk_shift": ((*PLAIN, True, False, -21, 21, 10 ** 30), errors.BadNumber),
    "one_board": (BAD_BOARDS, errors.BadBoard),
    "other_board": (BAD_BOARDS, errors.BadBoard),
    "shared": (tuple(value for value in BAD_SHARED if value != ()), errors.BadShared),
    "thread_order": (BAD_THREAD_ORDERS, errors.BadThreads),
    "many": (BAD_MANY, errors.BadColumn),
    "builders": (BAD_BUILDERS, errors.BadBuilders),
    "state": (BAD_STATES, errors.BadState),
    "builder": (BAD_BUILDER, errors.BadBuilder),
    "threads": (BAD_LOTS, errors.BadThreads),
    "rows": (BAD_LINES, errors.BadLines),
    "columns": (BAD_LINES, errors.BadLines),
    "lots": (BAD_LISTS_OF_LOTS, errors.BadLots),
    "number": (BAD_PLACES, errors.BadPlace),
    "lift_order": (BAD_LIFT_ORDERS, errors.BadLiftOrder),
    "picture": (BAD_PICTURES, errors.BadPicture),
    "colours": (BAD_COLOURS, errors.BadColours),
    "load": (BAD_LOADS, errors.BadLoad),
    "strengths": (BAD_STRENGTHS, errors.BadStrengths),
    "prices": (BAD_STRENGTHS, errors.BadPrices),
    "angle": ((*NO_ANGLES, 10, 11, 99, 100), errors.BadAngle),
    "far_angle": ((*NO_ANGLES, 100, 101), errors.BadAngle),
    "least": ((*NO_ANGLES[:3], *NO_ANGLES[4:], 10 ** 6 + 1, -(10 ** 6) - 1), errors.BadAngle),
    "motion": (BAD_MOTIONS, errors.BadMotion),
    "heights": (BAD_HEIGHTS, errors.BadHeights),
    "board": (BAD_BOARDS, errors.BadBoard),
    "one": (BAD_THREADS, errors.BadThread),
    "other": (BAD_THREADS, errors.BadThread),
    "row": (BAD_ROWS, errors.BadRow),
    "column": (BAD_COLUMNS, errors.BadColumn),
    "sign": (BAD_SIGNS, errors.BadSign),
    "lot": (BAD_LOTS, errors.BadLot),
}
GOOD = {"board": BOARD, "one": 0, "other": 4, "row": 1, "column": 2, "sign": ".", "lot": (0, 3), "value": None,
        "load": (2, -1, -1, 0, 0), "strengths": (1, 2, 3, 4, 5, 6, 7), "prices": (0, 9, 0, 9, 0, 9, 0), "angle": 9,
        "far_angle": 99, "least": 10 ** 6, "motion": (3, 3, -2, 3, 3), "heights": [((), 10 ** 6), ((0, 1, 3, 4), 0)],
        "rows": 2, "columns": 3, "lots": [(), (0, 1, 2, 3, 4), (0, 1, 3, 4)], "number": 0,
        "lift_order": ((0, 1, 3, 4), (2,)), "picture": ("ab.", "cxa"), "colours": ("a", "b", "b", "a", "c"),
        "one_board": BOARD, "other_board": BOARD, "shared": tuple((thread, thread) for thread in range(5)),
        "thread_order": (1, 0, 2, 4, 3), "many": 2, "builders": ((("cut", 1, 2),), (LEAVE,)),
        "state": ((">x<", ".<x"), (0, 1), (4, None)), "builder": 1, "threads": (0, 3), "order": (0,),
        "cells": (">x<", ".<."), "changes": (CUT, ("fill", 0, 0, "x")), "change": CUT, "lost": ((0, 0), (1, 2)), "one_break": (),
        "other_break": ((0, 1),), "thread": 4, "log": (TRIAL, ("mend", 0, 0)), "most": 2, "depth": 10, "replays": [PUT, ("turn",)],
        "desk_number": 9, "desk_shift": -20}
# A table's name for an argument whose bounds are others here than elsewhere, and its name in the interface.
OWN_NAMES = {
    "far_angle": "angle", "lift_order": "order", "thread_order": "order", "one_board": "one", "other_board": "other",
    "changes": "deeds", "change": "deed", "one_break": "one", "other_break": "other", "depth": "many", "replays": "deeds",
    "desk_number": "number", "desk_shift": "number",
}
# Values that are wrong for most arguments, but not for these.
NOT_WRONG = (("least", -2), ("lots", ((0,),)), ("desk_shift", -2))

CALLS = (
    (boards.steps, ("board",)),
    (boards.flipped, ("board",)),
    (boards.turned, ("board",)),
    (boards.with_cell, ("board", "row", "column", "sign")),
    (chains.leads, ("board", "one", "other")),
    (chains.chain, ("board", "one", "other")),
    (chains.shows_chain, ("board", "one", "other", "value")),
    (chains.reached, ("board", "one")),
    (chains.reaching, ("board", "other")),
    (lots.is_closed, ("board", "lot")),
    (lots.closed_lots, ("board",)),
    (lots.least_closed, ("board", "lot")),
    (lots.parts, ("board",)),
    (lots.layers, ("board",)),
    (lots.holds, ("board",)),
    (readings.lifting, ("board",)),
    (readings.is_motion, ("board", "value")),
    (readings.as_motion, ("board", "lot")),
    (readings.as_load, ("board", "lot")),
    (readings.ring_row, ("board",)),
    (readings.shows_ring, ("board", "value")),
    (readings.verdict, ("board",)),
    (readings.shows_verdict, ("board", "value")),
    (carrying.is_carried, ("board", "load")),
    (carrying.pulls, ("board", "load")),
    (carrying.least_pull, ("board", "load")),
    (carrying.shows_pulls, ("board", "load", "value")),
    (carrying.barring_lot, ("board", "load")),
    (strengths.is_held, ("board", "strengths", "load")),
    (strengths.holding, ("board", "strengths", "load")),
    (strengths.shows_held, ("board", "strengths", "load", "value")),
    (strengths.strained_lot, ("board", "strengths", "load")),
    (strengths.greatest_factor, ("board", "strengths", "load")),
    (strengths.tight_lots, ("board", "strengths", "load")),
    (strengths.first_to_break, ("board", "strengths", "load")),
    (prices.least_price, ("board", "strengths", "prices", "load")),
    (prices.cheapest, ("board", "strengths", "prices", "load")),
    (prices.price_paper, ("board", "strengths", "prices", "load")),
    (prices.shows_price, ("board", "strengths", "prices", "load", "value")),
    (prices.greatest_pull, ("board", "strengths", "one", "other")),
    (prices.narrowest, ("board", "strengths", "one", "other")),
    (loadcuts.fewest_cuts, ("board", "load")),
    (loadcuts.all_cuts, ("board", "load")),
    (loadcuts.fewest_fills, ("board", "load")),
    (loadcuts.first_fill, ("board", "load")),
    (loadcuts.spared_cells, ("board", "load")),
    (motions.motions, ("board", "angle")),
    (motions.count_motions, ("board", "far_angle")),
    (motions.as_lots, ("board", "motion")),
    (motions.of_lots, ("board", "least", "heights")),
    (lattices.lots_between, ("board", "one", "other")),
    (lattices.least_between, ("board", "one", "other")),
    (lattices.greatest_between, ("board", "one", "other")),
    (lattices.generators, ("board",)),
    (lattices.made_by, ("board", "lot")),
    (lattices.idle_steps, ("board",)),
    (lattices.lean, ("board",)),
    (lattices.board_of, ("rows", "columns", "lots")),
    (lattices.fewest_steps, ("rows", "columns", "lots")),
    (orders.count_orders, ("board",)),
    (orders.order_at, ("board", "number")),
    (orders.place_of, ("board", "lift_order")),
    (pictures.seen, ("board", "colours")),
    (pictures.seen_behind, ("board", "colours")),
    (pictures.first_wrong, ("picture", "colours")),
    (pictures.free_cells, ("picture", "colours")),
    (pictures.free_board, ("picture", "colours")),
    (pictures.weaves, ("picture", "colours")),
    (holdweaves.bridges, ("picture", "colours")),
    (holdweaves.holding_weave, ("picture", "colours")),
    (holdweaves.shows_holding, ("picture", "colours", "value")),
    (holdweaves.why_not, ("picture", "colours")),
    (holdweaves.shows_why, ("picture", "colours", "value")),
    (holdweaves.many_holding, ("picture", "colours")),
    (dyes.told_colours, ("board", "picture")),
    (dyes.colours_for, ("picture",)),
    (dyes.dyed, ("picture", "colours")),
    (mends.first_mend, ("picture", "colours")),
    (mends.is_mend, ("picture", "colours", "value")),
    (mends.mend_paper, ("picture", "colours")),
    (mends.shows_mend, ("picture", "colours", "value")),
    (joins.joined, ("one_board", "other_board", "shared")),
    (joins.places, ("one_board", "other_board", "shared")),
    (joins.beside, ("one_board", "other_board")),
    (joins.beneath, ("one_board", "other_board")),
    (joins.agreeing_lots, ("one_board", "other_board", "shared")),
    (joins.first_apart, ("one_board", "other_board", "shared")),
    (joins.split_load, ("one_board", "other_board", "shared", "load")),
    (joins.shows_split, ("one_board", "other_board", "shared", "load", "value")),
    (drawings.drawn, ("board", "lot")),
    (drawings.drawn_to, ("board", "lot")),
    (drawings.lots_with, ("board", "lot")),
    (drawings.bare, ("board",)),
    (drawings.exchanged, ("board", "thread_order")),
    (drawings.alike, ("one_board", "other_board")),
    (drawings.pieces, ("board",)),
    (drawings.parted, ("board", "many")),
    (builders.begun, ("board", "builders")),
    (builders.movers, ("board", "builders", "state")),
    (builders.acted, ("board", "builders", "state", "builder")),
    (standing.can_stand, ("board", "threads")),
    (standing.dividing_lot, ("board", "threads")),
    (workorders.state_behind, ("board", "builders", "order")),
    (workorders.ends, ("board", "builders")),
    (workorders.order_to, ("board", "builders", "cells")),
    (workorders.many_orders, ("board", "builders")),
    (workorders.first_stuck, ("board", "builders")),
    (firmness.firm_always, ("board", "builders")),
    (firmness.first_loose, ("board", "builders")),
    (firmness.firm_order, ("board", "builders")),
    (moments.moments, ("board", "changes", "change")),
    (moments.latest, ("board", "changes", "change")),
    (stopped.stopped_boards, ("board", "builders")),
    (stopped.stopped_places, ("board", "builders", "cells")),
    (stopped.surely_done, ("board", "builders", "cells")),
    (stopped.first_uncarried, ("board", "builders", "order", "load")),
    (trials.broken, ("board", "lost")),
    (trials.comes_along, ("board", "lost", "thread")),
    (trials.sight_of, ("board", "lost", "thread")),
    (trials.told_apart, ("board", "one_break", "other_break")),
    (trials.idle_cells, ("board",)),
    (lostlogs.does_fit, ("board", "lost", "log")),
    (lostlogs.breaks_that_fit, ("board", "log", "most")),
    (lostlogs.left_behind, ("board", "log", "most")),
    (lostlogs.sure_cells, ("board", "log", "most")),
    (lostlogs.alike_breaks, ("board", "most")),
    (plans.plan, ("board", "most")),
    (plans.fewest_trials, ("board", "most")),
    (plans.shows_plan, ("board", "most", "depth", "value")),
    (plans.best_trial, ("board", "log", "most")),
    (plans.fewest_looks, ("board", "log", "most", "thread")),
    (surely.surely_holds, ("board", "log", "most")),
    (surely.may_hold, ("board", "log", "most")),
    (surely.surely_carried, ("board", "log", "most", "load")),
    (surely.may_carry, ("board", "log", "most", "load")),
    (sheets.write, ("board", "load", "strengths")),
    (deeds.replayed, ("board", "replays")),
    (deeds.deeds_to, ("board", "other_board")),
    (deeds.fewest_deeds, ("board", "other_board")),
    (Desk, ("board",)),
    (put_on_desk, ("row", "column", "sign")),
    (strengthen_on_desk, ("row", "column", "desk_number")),
    (shift_on_desk, ("one", "other", "desk_shift")),
)


def outcome(call, arguments):
    """The class of the error that a call raises, or None."""
    try:
        call(**{OWN_NAMES.get(name, name): value for name, value in arguments.items()})
    except errors.WovenError as error:
        return error.__class__
    return None


class WrongInputs(unittest.TestCase):
    def test_the_calls_without_a_wrong_argument(self):
        for call, names in CALLS:
            with self.subTest(call=call.__name__):
                wrong = (
                    errors.NotClosed, errors.NotLifting, errors.TooMany, errors.NotShown, errors.BadJoin, errors.NoBreak,
                )
                self.assertIn(outcome(call, {name: GOOD[name] for name in names}), (None, *wrong))

    def test_one_wrong_argument(self):
        for call, names in CALLS:
            for name in names:
                values, wanted = BAD.get(name, ((), None))
                for value in values:
                    with self.subTest(call=call.__name__, name=name, value=value):
                        arguments = {other: GOOD[other] for other in names}
                        arguments[name] = value
                        self.assertIs(outcome(call, arguments), wanted)

    def test_one_wrong_argument_for_boards_without_steps_and_of_all_knots(self):
        for board in (Board((".",)), Board((".....",) * 5), Board(("x",)), Board(("xxxxx",) * 5)):
            many, pairs = len(board), len(boards.steps(board))
            good = {
                **GOOD, "board": board, "one": 0, "other": 1, "row": 0, "column": 0, "lot": (), "load": (0,) * many,
                "strengths": (1,) * pairs, "prices": (1,) * pairs, "motion": (1,) * many, "heights": [((), 1)],
                "rows": board.rows, "columns": board.columns, "lots": [()], "lift_order": tuple(lots.layers(board)),
                "picture": ("a" * board.columns,) * board.rows, "colours": ("a",) * many,
                "one_board": board, "other_board": board, "shared": tuple((thread, thread) for thread in range(many)),
                "thread_order": tuple(range(many)), "many": 1, "builders": ((LEAVE,),),
                "state": (board.cells, (0,), (None,)), "builder": 0, "threads": (), "order": (), "cells": board.cells,
                "changes": (), "lost": (), "other_break": (), "thread": 1, "log": (), "most": 1, "replays": [],
            }
            for call, names in CALLS:
                for name in names:
                    for value in (None, True, "0", [0], {0: 0}, ((0,),), (None,), -2, 10 ** 30):
                        if name in BAD and (name, value) not in NOT_WRONG:
                            arguments = {other: good[other] for other in names}
                            arguments[name] = value
                            self.assertIs(outcome(call, arguments), BAD[name][1], (call.__name__, name, value))

    def test_two_wrong_arguments_the_first_one_tells(self):
        for call, names in CALLS:
            for first, second in combinations([name for name in names if name in BAD], 2):
                for one in BAD[first][0]:
                    for other in BAD[second][0]:
                        arguments = {name: GOOD[name] for name in names}
                        arguments[first], arguments[second] = one, other
                        self.assertIs(outcome(call, arguments), BAD[first][1], (call.__name__, one, other))

    def test_all_arguments_wrong(self):
        for call, names in CALLS:
            self.assertIs(outcome(call, {name: None for name in names}), BAD[names[0]][1])

    def test_each_row_and_column_and_thread_that_there_is(self):
        for row in range(2):
            for column in range(3):
                self.assertIsInstance(boards.with_cell(BOARD, row, column, "x"), Board)
        for thread in range(5):
            self.assertIn(thread, chains.reached(BOARD, thread))

    def test_a_lot_that_is_none_is_told_ahead_of_one_that_is_not_closed(self):
        board = Board((">x", ".<"))
        with self.assertRaises(errors.BadLot):
            readings.as_motion(board, (1, 0))
        with self.assertRaises(errors.NotClosed):
            readings.as_motion(board, (0, 1))
        with self.assertRaises(errors.BadLot):
            readings.as_load(board, (1, 0))
        with self.assertRaises(errors.NotLifting):
            readings.as_load(board, (0, 1))


if __name__ == "__main__":
    unittest.main()
