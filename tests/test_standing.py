"""Point 41: whether builders can stand on some threads, and what divides them if they cannot."""

import unittest

from plain import all_lots, five_by_five, larger_boards, plain_closed_lots, plain_leads, tiny_boards

from wovenframes.boards import Board
from wovenframes.errors import BadThreads
from wovenframes.standing import can_stand, dividing_lot


def some_boards():
    for board in [*list(tiny_boards())[::2], *larger_boards(), *five_by_five()]:
        lots = all_lots(board)
        yield board, lots[:: 1 + len(lots) // 60] + lots[-1:]


class Standing(unittest.TestCase):
    def test_each_leads_to_each_other_one(self):
        for board, lots in some_boards():
            pairs = plain_leads(board)
            for threads in lots:
                wanted = all((one, other) in pairs for one in threads for other in threads)
                self.assertIs(can_stand(board, threads), wanted)

    def test_against_all_closed_lots(self):
        for board, lots in some_boards():
            closed = plain_closed_lots(board)
            for threads in lots:
                able = [lot for lot in closed if 0 < len(set(lot) & set(threads)) < len(threads)]
                self.assertEqual(dividing_lot(board, threads), able[0] if able else None)
                # There is one just if builders cannot stand so.
                self.assertEqual(able == [], can_stand(board, threads))

    def test_no_thread_and_one(self):
        for board, _ in some_boards():
            for threads in [(), *((thread,) for thread in range(len(board)))]:
                self.assertIs(can_stand(board, threads), True)
                self.assertIsNone(dividing_lot(board, threads))

    def test_both_ways_are_needed(self):
        for cells, wanted in (((">",), False), (("<",), False), ((".",), False), (("x",), True)):
            self.assertIs(can_stand(Board(cells), (0, 1)), wanted)
        self.assertIs(can_stand(Board(("><", "<>")), (0, 1, 2, 3)), True)
        self.assertIs(can_stand(Board(("><", "<<")), (0, 2)), False)
        self.assertEqual(dividing_lot(Board((">x", ".<")), (1, 2)), (0, 1, 3))
        self.assertEqual(dividing_lot(Board((">x", ".<")), (2, 3)), (0, 3))

    def test_bad_threads(self):
        board = Board((">x", ".<"))
        for threads in (None, True, 0, "", "01", [], [0, 1], {}, (1, 0), (0, 0), (0, 1, 1), (-1, 0), (0, 4), (True,), (0, True),
                        (None,), ("0",), ((0,),), ([0],), ({},), (board,), board, (10 ** 30,), (0, 1, 2, 3, 4)):
            for call in (can_stand, dividing_lot):
                with self.subTest(threads=threads), self.assertRaises(BadThreads):
                    call(board, threads)
        self.assertIsInstance(can_stand(board, (0, 1, 2, 3)), bool)


if __name__ == "__main__":
    unittest.main()
