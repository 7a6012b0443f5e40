"""The examples of the interface, word by word."""

import unittest

from wovenframes import errors

BOARDS = '''
>>> from wovenframes.boards import Board, flipped, steps, turned, with_cell
>>> board = Board((">x", ".<"))
>>> [board.cells, board.rows, board.columns, len(board), steps(board)]
[('>x', '.<'), 2, 2, 4, [(0, 2), (0, 3), (3, 0), (3, 1)]]
>>> [flipped(board).cells, turned(board).cells, with_cell(board, 1, 0, "x").cells]
[('<.', 'x>'), ('<x', '.>'), ('>x', 'x<')]
>>> Board((">x", "."))
raises BadCells()
'''

CHAINS = '''
>>> from wovenframes.boards import Board
>>> from wovenframes.chains import chain, leads, reached, reaching, shows_chain
>>> board = Board((">x", ".<"))
>>> [leads(board, 3, 2), chain(board, 3, 2), chain(board, 2, 3), chain(board, 1, 1)]
[True, (3, 0, 2), None, (1,)]
>>> [shows_chain(board, 3, 2, (3, 0, 3, 0, 2)), shows_chain(board, 3, 2, (3, 2)), reached(board, 0), reaching(board, 1)]
[True, False, [0, 1, 2, 3], [0, 1, 3]]
'''

LOTS = '''
>>> from wovenframes.boards import Board, turned
>>> from wovenframes.lots import closed_lots, holds, is_closed, layers, least_closed, parts
>>> board = Board((">x", ".<"))
>>> [closed_lots(board), least_closed(board, (2,)), is_closed(board, (0, 1))]
[[(), (0, 3), (0, 1, 3), (0, 2, 3), (0, 1, 2, 3)], (0, 2, 3), False]
>>> [parts(board), layers(board), layers(turned(board)), holds(board), holds(Board(("x",)))]
[[(0, 3), (1,), (2,)], [(0, 3), (1,), (2,)], [(1,), (2,), (0, 3)], False, True]
'''

READINGS = '''
>>> from wovenframes.boards import Board
>>> from wovenframes.readings import as_load, as_motion, is_motion, lifting, shows_ring, shows_verdict, verdict
>>> board = Board((">x", ".<"))
>>> [lifting(board), as_motion(board, (0, 3)), as_load(board, (0, 3)), verdict(board)]
[(0, 3), (1, 0, 0, 1), (-1, 1, 0, 0), ('lot', (0, 3))]
>>> [is_motion(board, (5, 2, -1, 5)), is_motion(board, (1, 0, 0, 0)), lifting(Board((">", "<")))]
[True, False, (0,)]
>>> [shows_verdict(board, ("lot", (0, 1, 3))), shows_ring(Board(("x",)), (0, 1, 0)), shows_verdict(Board(("><", "<>")), verdict(Board(("><", "<>"))))]
[True, True, True]
>>> as_motion(board, (0,))
raises NotClosed()
'''

CARRYING = '''
>>> from wovenframes.boards import Board
>>> from wovenframes.carrying import barring_lot, is_carried, least_pull, pulls, shows_pulls
>>> board = Board((">x", ".<"))
>>> [is_carried(board, (2, -1, -1, 0)), pulls(board, (2, -1, -1, 0)), least_pull(board, (2, -1, -1, 0)), barring_lot(board, (2, -1, -1, 0))]
[True, (1, 1, 0, 1), 3, None]
>>> [is_carried(board, (-1, 1, 0, 0)), pulls(board, (-1, 1, 0, 0)), barring_lot(board, (-1, 1, 0, 0)), shows_pulls(board, (2, -1, -1, 0), (1, 2, 1, 1))]
[False, None, (0, 3), False]
'''

STRENGTHS = '''
>>> from wovenframes.boards import Board
>>> from wovenframes.strengths import first_to_break, greatest_factor, holding, is_held, shows_held, strained_lot, tight_lots
>>> board = Board((">x", ".<"))
>>> [is_held(board, (1, 2, 0, 1), (2, -1, -1, 0)), holding(board, (1, 2, 0, 1), (2, -1, -1, 0)), strained_lot(board, (1, 0, 0, 1), (2, -1, -1, 0))]
[True, (1, 1, 0, 1), (0,)]
>>> [greatest_factor(board, (1, 2, 0, 1), (2, -1, -1, 0)), tight_lots(board, (1, 2, 0, 1), (2, -1, -1, 0)), first_to_break(board, (1, 2, 0, 1), (2, -1, -1, 0))]
[(1, 1), [(0, 3), (0, 1, 3), (0, 2, 3)], [(0, 2), (3, 1)]]
>>> [greatest_factor(board, (5, 3, 0, 7), (2, 0, -2, 0)), shows_held(board, (1, 2, 1, 1), (2, -1, -1, 0), (1, 2, 1, 1))]
[(5, 2), True]
'''

PRICES = '''
>>> from wovenframes.boards import Board
>>> from wovenframes.prices import cheapest, greatest_pull, least_price, narrowest, price_paper, shows_price
>>> board = Board((">x", ".<"))
>>> [least_price(board, (1, 2, 0, 1), (3, 0, 0, 2), (2, -1, -1, 0)), cheapest(board, (1, 2, 0, 1), (3, 0, 0, 2), (2, -1, -1, 0)), least_price(board, (0, 0, 0, 0), (1, 1, 1, 1), (1, 0, -1, 0))]
[5, (1, 1, 0, 1), None]
>>> [shows_price(board, (1, 2, 1, 1), (3, 0, 0, 2), (2, -1, -1, 0), ((1, 1, 0, 1), (0, 2, 3, 0))), shows_price(board, (1, 2, 1, 1), (3, 0, 1, 2), (2, -1, -1, 0), ((1, 2, 1, 1), (0, 2, 3, 0)))]
[True, False]
>>> [greatest_pull(board, (5, 3, 0, 7), 0, 1), narrowest(board, (5, 3, 0, 7), 0, 1), greatest_pull(board, (5, 3, 0, 7), 1, 0), narrowest(board, (5, 3, 0, 7), 1, 0)]
[3, (0, 2), 0, (1,)]
'''

LOADCUTS = '''
>>> from wovenframes.boards import Board
>>> from wovenframes.loadcuts import all_cuts, fewest_cuts, fewest_fills, first_fill, spared_cells
>>> board = Board((">x", ".<"))
>>> [fewest_cuts(board, (2, -1, -1, 0)), all_cuts(board, (2, -1, -1, 0)), fewest_cuts(board, (-1, 1, 0, 0))]
[1, [((0, 0),), ((0, 1),), ((1, 1),)], 0]
>>> [fewest_fills(board, (-1, 1, 0, 0)), first_fill(board, (-1, 1, 0, 0)), spared_cells(board, (1, 0, -1, 0))]
[1, ((1, 1),), [(0, 1), (1, 1)]]
'''

MOTIONS = '''
>>> from wovenframes.boards import Board
>>> from wovenframes.motions import as_lots, count_motions, motions, of_lots
>>> board = Board((">x", ".<"))
>>> [motions(board, 1), count_motions(board, 2), count_motions(board, 99)]
[[(0, 0, 0, 0), (1, 0, 0, 1), (1, 0, 1, 1), (1, 1, 0, 1), (1, 1, 1, 1)], 14, 338350]

>>> from wovenframes.boards import Board
>>> from wovenframes.motions import as_lots, of_lots
>>> board = Board((">x", ".<"))
>>> [as_lots(board, (5, 2, -1, 5)), of_lots(board, -1, [((0, 3), 3), ((0, 1, 3), 3)]), as_lots(board, (4, 4, 4, 4))]
[(-1, (((0, 1, 3), 3), ((0, 3), 3))), (5, 2, -1, 5), (4, ())]
'''

LATTICES = '''
>>> from wovenframes.boards import Board
>>> from wovenframes.lattices import greatest_between, least_between, lots_between
>>> board = Board((">x", ".<"))
>>> [lots_between(board, 0, 1), least_between(board, 0, 1), greatest_between(board, 0, 1), least_between(board, 1, 0)]
[[(0, 3), (0, 2, 3)], (0, 3), (0, 2, 3), None]

>>> from wovenframes.boards import Board
>>> from wovenframes.lattices import generators, idle_steps, lean, made_by
>>> board, whole = Board((">x", ".<")), Board(("xx", "xx"))
>>> [generators(board), made_by(board, (0, 1, 2, 3)), idle_steps(board), len(idle_steps(whole)), lean(whole).cells]
[[(0, 3), (0, 1, 3), (0, 2, 3)], [(0, 1, 3), (0, 2, 3)], [], 8, ('<>', '><')]

>>> from wovenframes.boards import Board
>>> from wovenframes.lattices import board_of, fewest_steps
>>> from wovenframes.lots import closed_lots
>>> lots = [(0, 1), (), (0,)]
>>> [board_of(1, 1, lots).cells, fewest_steps(1, 1, lots), fewest_steps(2, 1, [(), (0,), (0, 1), (0, 1, 2)]), fewest_steps(2, 2, closed_lots(Board(("xx", "xx"))))]
[('>',), 1, None, 4]
'''

ORDERS = '''
>>> from wovenframes.boards import Board
>>> from wovenframes.orders import count_orders, order_at, place_of
>>> board = Board((">x", ".<"))
>>> [count_orders(board), order_at(board, 1), place_of(board, ((0, 3), (1,), (2,))), count_orders(Board((".....",) * 5))]
[2, ((0, 3), (2,), (1,)), 0, 3628800]
'''

PICTURES = '''
>>> from wovenframes.boards import Board
>>> from wovenframes.pictures import first_wrong, free_board, free_cells, seen, seen_behind, weaves
>>> [seen(Board((">x", ".<")), ("a", "b", "c", "d")), seen_behind(Board((">x", ".<")), ("a", "b", "c", "d"))]
[('ax', '.d'), ('xc', 'b.')]
>>> [free_cells(("ab", "aa"), ("a", "a", "a", "b")), first_wrong(("ab", "ac"), ("a", "a", "a", "b")), first_wrong(("ab", "aa"), ("a", "a", "a", "b"))]
[[(0, 0), (1, 0)], (1, 1), None]
>>> [free_board(("ab", "aa"), ("a", "a", "a", "b")).cells, weaves(("ab", "aa"), ("a", "a", "a", "b"))]
[('x<', 'x>'), [('<<', '<>'), ('<<', '>>'), ('><', '<>'), ('><', '>>')]]
>>> free_board(("ab", "ac"), ("a", "a", "a", "b"))
raises NotShown()
'''

HOLDWEAVES = '''
>>> from wovenframes.holdweaves import bridges, holding_weave, many_holding, shows_holding, shows_why, why_not
>>> [bridges(("ab", "aa"), ("a", "a", "a", "b")), holding_weave(("ab", "aa"), ("a", "a", "a", "b")), many_holding(("ab", "aa"), ("a", "a", "a", "b"))]
[[], ('><', '<>'), 1]
>>> [bridges(("a.", "aa"), ("a", "a", "a", "a")), why_not(("a.", "aa"), ("a", "a", "a", "a")), why_not(("ab", "aa"), ("a", "a", "b", "b"))]
[[(0, 0), (1, 0), (1, 1)], ('bridge', 0, 0), ('lot', (1,))]
>>> [shows_why(("ab", "aa"), ("a", "a", "b", "b"), ("lot", (1, 3))), shows_holding(("ab", "aa"), ("a", "a", "a", "b"), ("<<", ">>"))]
[True, False]
'''

DYES = '''
>>> from wovenframes.boards import Board
>>> from wovenframes.dyes import colours_for, dyed, told_colours
>>> [told_colours(Board((">x", ".<")), ("ax", ".d")), told_colours(Board((">>",)), ("ab",)), colours_for(("ab",))]
[('a', None, None, 'd'), None, [('a', 'a', 'b'), ('a', 'b', 'b'), ('b', 'a', 'a'), ('b', 'a', 'b')]]
>>> [dyed(("ab", "ba"), ("a", "b", "c", "c")), dyed(("ab", "aa"), ("a", "a", "a", "c")), dyed(("abc", "bca", "cab"), ("a", "a", "a", "a", "a", "a"))]
[(0, 2, 3), (0,), None]
'''

MENDS = '''
>>> from wovenframes.mends import first_mend, is_mend, mend_paper, shows_mend
>>> [first_mend(("aa", "aa"), ("a", "a", "b", "b")), first_mend(("ab", "aa"), ("a", "a", "a", "b")), first_mend(("aa",), ("a", "b", "b"))]
[((0, 0), (1, 1)), (), None]
>>> [is_mend(("aa", "aa"), ("a", "a", "b", "b"), ((0, 1), (1, 0))), shows_mend(("aa", "aa"), ("a", "a", "b", "b"), (((0, 0), (1, 1)), [(0,), (1,)]))]
[True, True]
>>> shows_mend(("aa", "aa"), ("a", "a", "b", "b"), mend_paper(("aa", "aa"), ("a", "a", "b", "b")))
True
'''

JOINS = '''
>>> from wovenframes.boards import Board
>>> from wovenframes.joins import agreeing_lots, beneath, beside, first_apart, joined, places, shows_split, split_load
>>> one, other = Board((">", "<")), Board(("<>",))
>>> [joined(one, other, ((0, 0), (2, 1))).cells, places(one, other, ((0, 0), (2, 1))), beside(one, one).cells, beneath(one, one).cells]
[('x>', '<.'), ((0, 1, 2), (0, 2, 3)), ('>>', '<<'), ('>', '<', '>', '<')]
>>> [agreeing_lots(one, other, ((0, 0), (2, 1))), first_apart(one, other, ((0, 0), (2, 1)))]
[[((), ()), ((0, 2), (0, 1)), ((0, 1, 2), (0, 1)), ((0, 2), (0, 1, 2)), ((0, 1, 2), (0, 1, 2))], ((0, 2), (0, 1))]
>>> [split_load(one, other, ((0, 0), (2, 1)), (2, -1, 0, -1)), split_load(one, other, ((0, 0), (2, 1)), (-1, 0, 0, 1))]
[((1, -1, 0), (1, 0, -1)), None]
>>> shows_split(one, other, ((0, 0), (2, 1)), (2, -1, 0, -1), ((1, -1, 0), (1, 0, -1)))
True
'''

DRAWINGS = '''
>>> from wovenframes.boards import Board
>>> from wovenframes.drawings import alike, bare, drawn, drawn_to, exchanged, lots_with, parted, pieces
>>> board = Board((">x", ".<"))
>>> [drawn(board, (0, 1)).cells, drawn_to(board, (0, 1)), lots_with(board, (0, 1)), bare(board).cells]
[('>x',), (0, 0, 1, 2), [(), (0, 1, 3), (0, 1, 2, 3)], ('>x', '.<')]
>>> [exchanged(board, (1, 0, 3, 2)).cells, alike(board, Board(("<.", "x>"))), alike(board, Board((">x", ".>"))), pieces(Board((">.", ".<")))]
[('<.', 'x>'), (1, 0, 3, 2), None, [(0, 2), (1, 3)]]
>>> [half.cells for half in parted(board, 1)]
[('>', '.'), ('x', '<')]
'''

BUILDERS = '''
>>> from wovenframes.boards import Board
>>> from wovenframes.builders import acted, begun, movers
>>> board, builders = Board((">",)), ((("cut", 0, 0), ("fill", 0, 0, "x")), (("stand", 1), ("leave",)))
>>> [begun(board, builders), movers(board, builders, begun(board, builders))]
[(('>',), (0, 0), (None, None)), (0, 1)]
>>> [acted(board, builders, (("x",), (1, 1), (None, 1)), 0), acted(board, builders, (("x",), (1, 1), (None, 1)), 1)]
[None, (('x',), (1, 2), (None, None))]
'''

STANDING = '''
>>> from wovenframes.boards import Board
>>> from wovenframes.standing import can_stand, dividing_lot
>>> [can_stand(Board((">",)), (0, 1)), dividing_lot(Board((">",)), (0, 1)), can_stand(Board(("x",)), (0, 1)), dividing_lot(Board(("x",)), (0, 1))]
[False, (0,), True, None]
'''

WORKORDERS = '''
>>> from wovenframes.boards import Board
>>> from wovenframes.workorders import ends, first_stuck, many_orders, order_to, state_behind
>>> board, builders = Board((">",)), ((("cut", 0, 0), ("fill", 0, 0, "x")), (("stand", 1), ("leave",)))
>>> [state_behind(board, builders, (0, 1, 0)), ends(board, builders), order_to(board, builders, ("x",)), many_orders(board, builders)]
[(('x',), (2, 1), (None, 1)), [('x',)], (0, 0, 1, 1), 6]
>>> [first_stuck(board, builders), first_stuck(board, ((("stand", 0),), (("stand", 1),)))]
[None, (0,)]
>>> state_behind(board, builders, (0, 0, 0))
raises BadOrder(index=2)
'''

FIRMNESS = '''
>>> from wovenframes.boards import Board
>>> from wovenframes.firmness import firm_always, firm_order, first_loose
>>> board, builders = Board(("xx", "x.")), ((("cut", 0, 0),), (("fill", 1, 1, "x"),))
>>> [firm_always(board, builders), first_loose(board, builders), firm_order(board, builders)]
[False, (0,), (1, 0)]
'''

MOMENTS = '''
>>> from wovenframes.boards import Board
>>> from wovenframes.moments import latest, moments
>>> board, deeds = Board(("xx", "xx")), (("cut", 0, 0), ("fill", 0, 0, "x"))
>>> [moments(board, deeds, ("cut", 1, 1)), latest(board, deeds, ("cut", 1, 1)), moments(board, deeds, ("cut", 0, 0)), latest(board, (), ("cut", 0, 0))]
[[2], 2, [2], 0]
'''

STOPPED = '''
>>> from wovenframes.boards import Board
>>> from wovenframes.stopped import first_uncarried, stopped_boards, stopped_places, surely_done
>>> board, builders = Board((">",)), ((("cut", 0, 0), ("fill", 0, 0, "x")), (("stand", 1), ("leave",)))
>>> [stopped_boards(board, builders), stopped_places(board, builders, ("x",)), surely_done(board, builders, ("x",))]
[[('.',), ('>',), ('x',)], [(2, 0), (2, 1), (2, 2)], (2, 0)]
>>> [first_uncarried(board, builders, (0, 0), (1, -1)), first_uncarried(board, builders, (0, 0), (-1, 1)), first_uncarried(board, builders, (1,), (1, -1))]
[1, 0, None]
'''

TRIALS = '''
>>> from wovenframes.boards import Board
>>> from wovenframes.trials import broken, comes_along, idle_cells, sight_of, told_apart
>>> board = Board((">x", ".<"))
>>> [broken(board, ((0, 1),)).cells, comes_along(board, ((0, 1),), 2), sight_of(board, (), 2), sight_of(board, ((0, 1),), 2)]
[('>.', '.<'), (0, 2), '+-++', '+-+-']
>>> [told_apart(board, (), ((0, 1),)), idle_cells(board), idle_cells(Board(("xx", "xx")))]
[0, [], [(0, 0), (0, 1), (1, 0), (1, 1)]]
>>> broken(board, ((1, 0),))
raises BadBreak()
'''

LOSTLOGS = '''
>>> from wovenframes.boards import Board
>>> from wovenframes.lostlogs import alike_breaks, breaks_that_fit, does_fit, left_behind, sure_cells
>>> board, log = Board((">x", ".<")), (("trial", 2, "+-+-"),)
>>> [breaks_that_fit(board, log, 1), breaks_that_fit(board, log, 2), left_behind(board, log + (("mend", 0, 1),), 2)]
[[((0, 1),)], [((0, 1),), ((0, 1), (1, 1))], [(), ((1, 1),)]]
>>> [sure_cells(board, log, 2), does_fit(board, (), log), breaks_that_fit(board, (("trial", 2, "??+-"),), 1)]
[(((0, 1),), ((0, 0),)), False, [((0, 0),), ((0, 1),)]]
>>> alike_breaks(Board(("xx", "xx")), 1)
[[(), ((0, 0),), ((0, 1),), ((1, 0),), ((1, 1),)]]
>>> left_behind(board, (("mend", 1, 0),), 1)
raises BadLog(index=0)
'''

PLANS = '''
>>> from wovenframes.boards import Board
>>> from wovenframes.plans import best_trial, fewest_looks, fewest_trials, plan, shows_plan
>>> board = Board((">x", ".<"))
>>> [fewest_trials(board, 1), shows_plan(board, 1, 2, plan(board, 1)), shows_plan(board, 1, 1, plan(board, 1)), plan(Board(("xx", "xx")), 1)]
[2, True, False, ('end',)]
>>> [best_trial(board, (), 1), fewest_looks(board, (), 1, 1), best_trial(board, (), 0)]
[1, (0, 3), None]
'''

SURELY = '''
>>> from wovenframes.boards import Board
>>> from wovenframes.surely import may_carry, may_hold, surely_carried, surely_holds
>>> board, log, knots = Board((">x", ".<")), (("trial", 2, "+-+-"),), Board(("xx", "xx"))
>>> [surely_holds(knots, (), 1), surely_holds(knots, (), 2), may_hold(knots, (), 2), surely_carried(knots, (), 1, (1, -1, 0, 0))]
[True, False, True, True]
>>> [surely_carried(board, log, 1, (1, 0, -1, 0)), may_carry(board, log, 1, (1, -1, 0, 0))]
[True, False]
>>> may_hold(board, log, 0)
raises NoBreak()
'''

SHEETS = r'''
>>> from wovenframes.boards import Board
>>> from wovenframes.sheets import read, write
>>> write(Board(("><",)), (0, -3, 3), (1, 4)).split("\n")
['row ><', 'load 0 -3 3', 'strengths 1 4']
>>> [read("row ><\n load 0  -3 3\nstrengths 1 4")[1:], read("row .\nload 0 0\nstrengths")[0].cells]
[((0, -3, 3), (1, 4)), ('.',)]
>>> read("row ><\nload 0 1 1")
raises InvalidText(line=2, word=4)
'''

DESKS = '''
>>> from wovenframes.boards import Board
>>> from wovenframes.desks import Desk
>>> desk = Desk(Board(("><",)))
>>> [desk.shift(2, 1, 3), desk.strengthen(0, 1, 4), desk.own_load, desk.own_strengths, desk.does_carry(), desk.verdict()]
[None, None, (0, -3, 3), (1, 4), True, ('lot', (2,))]
>>> [desk.flip(), desk.own_board.cells, desk.own_load, desk.own_strengths, desk.turn(), desk.own_load, len(desk)]
[None, ('<', '>'), (-3, 3, 0), (4, 1), None, (3, -3, 0), 4]
>>> [desk.undo(), desk.undo(), desk.own_board.cells, desk.redo(), desk.own_board.rows, len(desk)]
[True, True, ('><',), True, 2, 3]
>>> desk.shift(1, 0, 20)
raises TooHeavy()
'''

DEEDS = '''
>>> from wovenframes.boards import Board
>>> from wovenframes.deeds import deeds_to, fewest_deeds, replayed
>>> board, other = Board(("><",)), Board((">", "<"))
>>> [fewest_deeds(board, other), replayed(board, deeds_to(board, other)).cells, fewest_deeds(board, Board(("><x",)))]
[2, ('>', '<'), None]
>>> [replayed(board, [("flip",), ("put", 1, 0, "x")]).cells, deeds_to(board, board)]
[('<', 'x'), []]
>>> replayed(board, [("put", 0, 1, "x"), ("put", 1, 0, "x")])
raises BadDeeds(index=1)
'''


def is_statement(source):
    """Whether an example's line is to be run, and shows nothing."""
    return source.startswith("from ") or " = " in source.split("(")[0]


class Examples(unittest.TestCase):
    def check(self, text):
        names = {}
        lines = text.strip().split("\n")
        for line, wanted in zip(lines, lines[1:] + [""]):
            if not line.startswith(">>> "):
                continue
            source = line[4:]
            with self.subTest(source=source):
                if is_statement(source):
                    exec(source, names)
                elif wanted.startswith("raises "):
                    self.check_error(source, names, wanted[len("raises "):])
                else:
                    self.assertEqual(repr(eval(source, names)), wanted)

    def check_error(self, source, names, wanted):
        error = eval(wanted, vars(errors).copy())
        with self.assertRaises(errors.WovenError) as caught:
            eval(source, names)
        self.assertIs(caught.exception.__class__, error.__class__)
        self.assertEqual(vars(caught.exception), vars(error))

    def test_boards(self):
        self.check(BOARDS)

    def test_chains(self):
        self.check(CHAINS)

    def test_lots(self):
        self.check(LOTS)

    def test_readings(self):
        self.check(READINGS)

    def test_carrying(self):
        self.check(CARRYING)

    def test_strengths(self):
        self.check(STRENGTHS)

    def test_prices(self):
        self.check(PRICES)

    def test_loadcuts(self):
        self.check(LOADCUTS)

    def test_motions(self):
        self.check(MOTIONS)

    def test_lattices(self):
        self.check(LATTICES)

    def test_orders(self):
        self.check(ORDERS)

    def test_pictures(self):
        self.check(PICTURES)

    def test_holdweaves(self):
        self.check(HOLDWEAVES)

    def test_dyes(self):
        self.check(DYES)

    def test_mends(self):
        self.check(MENDS)

    def test_joins(self):
        self.check(JOINS)

    def test_drawings(self):
        self.check(DRAWINGS)

    def test_builders(self):
        self.check(BUILDERS)

    def test_standing(self):
        self.check(STANDING)

    def test_workorders(self):
        self.check(WORKORDERS)

    def test_firmness(self):
        self.check(FIRMNESS)

    def test_moments(self):
        self.check(MOMENTS)

    def test_stopped(self):
        self.check(STOPPED)

    def test_trials(self):
        self.check(TRIALS)

    def test_lostlogs(self):
        self.check(LOSTLOGS)

    def test_plans(self):
        self.check(PLANS)

    def test_surely(self):
        self.check(SURELY)

    def test_sheets(self):
        self.check(SHEETS)

    def test_desks(self):
        self.check(DESKS)

    def test_deeds(self):
        self.check(DEEDS)


if __name__ == "__main__":
    unittest.main()
