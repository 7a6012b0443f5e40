"""Point 40: the deeds of several builders, and the states of their work."""

import unittest
from itertools import product

from plain import mixed_board
from plainloads import mixed_numbers
from plainwork import plain_acted, states_that_come, tried

from wovenframes.boards import Board
from wovenframes.builders import acted, begun, movers
from wovenframes.errors import BadBuilder, BadBuilders, BadState

BOARD = Board((">",))
BUILDERS = ((("cut", 0, 0), ("fill", 0, 0, "x")), (("stand", 1), ("leave",)))


class Work(unittest.TestCase):
    def test_begun(self):
        for board, builders in tried():
            many = len(builders)
            self.assertEqual(begun(board, builders), (board.cells, (0,) * many, (None,) * many))

    def test_all_states_that_come(self):
        comes = {None: 0, "fill": 0, "cut": 0, "stand": 0, "leave": 0}
        for board, builders in tried():
            for state in states_that_come(board, builders)[:60]:
                able = []
                for builder in range(len(builders)):
                    wanted = plain_acted(builders, state, builder)
                    self.assertEqual(acted(board, builders, state, builder), wanted)
                    if wanted is None:
                        comes[None] += 1
                    else:
                        able.append(builder)
                        comes[builders[builder][state[1][builder]][0]] += 1
                self.assertEqual(movers(board, builders, state), tuple(able))
        self.assertGreater(min(comes.values()), 30)

    def test_states_whether_they_come_or_not(self):
        comes = {True: 0, False: 0}
        for at, (board, builders) in enumerate(tried()):
            many = len(board)
            for seed in range(12):
                cells = mixed_board(board.rows, board.columns, at + seed, ("x.", "<>x", ".<>x")[seed % 3]).cells
                thrown = mixed_numbers(at + seed, 6, 0, 10 ** 4)
                done = tuple(number % (len(deeds) + 1) for number, deeds in zip(thrown, builders))
                threads = tuple(None if number % 3 == 0 else number % many for number in thrown[3:3 + len(builders)])
                state = (cells, done, threads)
                wanted = [plain_acted(builders, state, builder) for builder in range(len(builders))]
                told = [acted(board, builders, state, builder) for builder in range(len(builders))]
                self.assertEqual(told, wanted)
                able = tuple(builder for builder in range(len(builders)) if wanted[builder] is not None)
                self.assertEqual(movers(board, builders, state), able)
                comes[bool(able)] += 1
        self.assertGreater(min(comes.values()), 30)

    def test_the_cell_or_the_builder_must_be_so(self):
        for sign, new in product(".<>x", "<>x"):
            state = ((sign,), (0,), (None,))
            filled = ((new,), (1,), (None,)) if sign == "." else None
            cut = ((".",), (1,), (None,)) if sign != "." else None
            self.assertEqual(acted(BOARD, ((("fill", 0, 0, new),),), state, 0), filled)
            self.assertEqual(acted(BOARD, ((("cut", 0, 0),),), state, 0), cut)
        for thread in (None, 0, 1):
            state = ((".",), (0,), (thread,))
            stood = ((".",), (1,), (1,)) if thread is None else None
            left = ((".",), (1,), (None,)) if thread is not None else None
            self.assertEqual(acted(BOARD, ((("stand", 1),),), state, 0), stood)
            self.assertEqual(acted(BOARD, ((("leave",),),), state, 0), left)

    def test_what_stands_behind_the_deed_counts_not_ahead(self):
        builders = ((("stand", 0), ("leave",)), (("cut", 0, 0), ("fill", 0, 0, "x")))
        self.assertEqual(movers(BOARD, builders, ((">",), (0, 0), (None, 0))), (0, 1))
        self.assertEqual(movers(BOARD, builders, ((">",), (0, 0), (None, 1))), (1,))
        # They stand so that neither could, and the fill makes that they can; to leave does so, too.
        self.assertEqual(acted(BOARD, builders, ((".",), (1, 1), (0, 1)), 1), (("x",), (1, 2), (0, 1)))
        self.assertEqual(acted(BOARD, builders, ((".",), (1, 1), (0, 1)), 0), ((".",), (2, 1), (None, 1)))
        self.assertIsNone(acted(BOARD, ((), (("fill", 0, 0, ">"),)), ((".",), (0, 0), (0, 1)), 1))
        self.assertIsNone(acted(BOARD, ((), (("cut", 0, 0),)), (("x",), (0, 0), (0, 1)), 1))
        self.assertEqual(acted(BOARD, ((), (("cut", 0, 0),)), (("x",), (0, 0), (1, 1)), 1), ((".",), (0, 1), (1, 1)))

    def test_three_builders_who_stand(self):
        board, builders = Board(("xx", "x.")), ((("stand", 0),), (("stand", 1),), (("cut", 1, 0),))
        self.assertEqual(movers(board, builders, begun(board, builders)), (0, 1, 2))
        both = (board.cells, (1, 1, 0), (0, 1, None))
        self.assertEqual(movers(board, builders, both), ())
        self.assertEqual(movers(board, builders, (board.cells, (1, 0, 1), (0, None, 2))), (1,))

    def test_no_deeds(self):
        for builders in (((),), ((), ()), ((), (), ())):
            many = len(builders)
            state = begun(BOARD, builders)
            self.assertEqual(state, ((">",), (0,) * many, (None,) * many))
            self.assertEqual(movers(BOARD, builders, state), ())
            self.assertIsNone(acted(BOARD, builders, state, many - 1))


class WrongBuilders(unittest.TestCase):
    NO_DEEDS = (
        None, True, 0, "", "cut", [], ["cut", 0, 0], {}, (), ("cut",), ("cut", 0), ("cut", 0, 0, 0), ("cut", 0, 1),
        ("cut", 1, 0), ("cut", -1, 0), ("cut", 0, -1), ("cut", True, 0), ("cut", 0, False), ("cut", None, 0), ("cut", "0", 0),
        ("cut", (0, 0)), ("cut", [0], 0), ("fill", 0, 0), ("fill", 0, 0, "."), ("fill", 0, 0, "xx"), ("fill", 0, 0, ""),
        ("fill", 0, 0, None), ("fill", 0, 0, "X"), ("fill", 0, 0, "x", 0), ("fill", 1, 0, "x"), ("fill", 0, 1, "x"),
        ("fill", False, 0, "x"), ("fill", 0, 0, ["x"]), ("fill", 0, 0, ("x",)), ("fill", 0, 0, 1), ("stand",), ("stand", 2),
        ("stand", -1), ("stand", True), ("stand", None), ("stand", 0, 0), ("stand", "0"), ("stand", (0,)), ("leave", 0),
        ("leave", None), ("Leave",), ("put", 0, 0, "x"), (None,), (0,), (["leave"],), (("leave",),), BOARD, (BOARD,),
        ("cut", 10 ** 30, 0), ("stand", {}),
    )

    def check(self, builders, builder, place):
        for call, rest in ((begun, ()), (movers, (None,)), (acted, (None, None))):
            with self.subTest(builders=builders), self.assertRaises(BadBuilders) as caught:
                call(BOARD, builders, *rest)
            self.assertEqual((caught.exception.builder, caught.exception.place), (builder, place))

    def test_no_tuple_of_one_to_three_things(self):
        for builders in (None, True, 0, "", "ab", [], [()], {}, {0: ()}, (), ((),) * 4, ((),) * 5, BOARD, (7,) * 4):
            self.check(builders, None, None)

    def test_the_first_one_that_is_no_tuple_of_at_most_six(self):
        leave = ("leave",)
        for thing in (None, True, 0, "", "ab", [], [leave], {}, (leave,) * 7, (leave,) * 8, BOARD, (None,) * 7):
            self.check((thing,), 0, None)
            self.check(((leave,) * 6, thing), 1, None)
            self.check(((), (leave,), thing), 2, None)
            self.check(((), thing, None), 1, None)
        self.assertEqual(begun(BOARD, ((leave,) * 6,) * 3), ((">",), (0,) * 3, (None,) * 3))

    def test_the_first_thing_that_is_no_deed(self):
        leave = ("leave",)
        for deed in self.NO_DEEDS:
            self.check(((deed,),), 0, 0)
            self.check(((leave, leave, deed, deed),), 0, 2)
            self.check(((leave,) * 6, (leave,) * 5 + (deed,)), 1, 5)
            self.check(((), (leave, deed), (deed,)), 1, 1)
            self.check(((leave, deed), None), 0, 1)
            self.check((None, (deed,)), 0, None)

    def test_each_deed_that_is_one(self):
        board = Board((">x<", ".<x"))
        deeds = [("fill", row, column, sign) for row, column, sign in product(range(2), range(3), "<>x")]
        deeds += [("cut", row, column) for row, column in product(range(2), range(3))]
        deeds += [("stand", thread) for thread in range(5)] + [("leave",)]
        for deed in deeds:
            self.assertEqual(begun(board, ((deed,),))[1:], ((0,), (None,)))


class WrongStates(unittest.TestCase):
    GOOD = ((">",), (2, 0), (None, 1))

    def test_bad_states(self):
        good = self.GOOD
        self.assertIsInstance(movers(BOARD, BUILDERS, good), tuple)
        for state in (None, True, 0, "", [], list(good), {}, (), good[:2], good + (0,), good[:1], (good,), BOARD,
                      (BOARD, (2, 0), (None, 1)), (">", (2, 0), (None, 1)), ([">"], (2, 0), (None, 1)),
                      (("..",), (2, 0), (None, 1)), ((".", "."), (2, 0), (None, 1)), (("a",), (2, 0), (None, 1)),
                      ((), (2, 0), (None, 1)), (("",), (2, 0), (None, 1)), (None, (2, 0), (None, 1)),
                      ((">",), (3, 0), (None, 1)), ((">",), (0, 3), (None, 1)), ((">",), (-1, 0), (None, 1)),
                      ((">",), (2,), (None, 1)), ((">",), (2, 0, 0), (None, 1)), ((">",), [2, 0], (None, 1)),
                      ((">",), (True, 0), (None, 1)), ((">",), (2, False), (None, 1)), ((">",), (2, None), (None, 1)),
                      ((">",), ("2", 0), (None, 1)), ((">",), ((2,), 0), (None, 1)), ((">",), None, (None, 1)),
                      ((">",), (2, 0), (None,)), ((">",), (2, 0), (None, 1, None)), ((">",), (2, 0), [None, 1]),
                      ((">",), (2, 0), (None, 2)), ((">",), (2, 0), (-1, 1)), ((">",), (2, 0), (None, True)),
                      ((">",), (2, 0), (False, 1)), ((">",), (2, 0), (None, "1")), ((">",), (2, 0), (None, (1,))),
                      ((">",), (2, 0), None), ((">",), (2, 0), ([], 1)), ((">",), (2, 0), ({}, 1)), ((2, 0), (">",), (None, 1)),
                      ((">",), (10 ** 30, 0), (None, 1)), ((">",), (2, 0), (None, 10 ** 30)), ("a", "b", "c")):
            for call, rest in ((movers, ()), (acted, (0,)), (acted, (None,))):
                with self.subTest(state=state), self.assertRaises(BadState):
                    call(BOARD, BUILDERS, state, *rest)

    def test_each_state_that_is_one(self):
        for sign, first, second, one, other in product(".<>x", range(3), range(3), (None, 0, 1), (None, 0, 1)):
            state = ((sign,), (first, second), (one, other))
            self.assertIsInstance(movers(BOARD, BUILDERS, state), tuple)

    def test_bad_builder(self):
        for builder in (None, True, False, -1, 2, 3, "0", (0,), [0], {}, {0: 0}, 10 ** 30, BOARD, ()):
            with self.subTest(builder=builder), self.assertRaises(BadBuilder):
                acted(BOARD, BUILDERS, self.GOOD, builder)
        for many in (1, 2, 3):
            builders = ((("cut", 0, 0),),) * many
            for builder in range(many):
                self.assertIsNotNone(acted(BOARD, builders, begun(BOARD, builders), builder))
            with self.assertRaises(BadBuilder):
                acted(BOARD, builders, begun(BOARD, builders), many)

    def test_the_arguments_stay_as_they_are(self):
        state = begun(BOARD, BUILDERS)
        for builder in range(2):
            acted(BOARD, BUILDERS, state, builder)
        self.assertEqual(state, ((">",), (0, 0), (None, None)))


if __name__ == "__main__":
    unittest.main()
