import unittest

from stemshelf.boards import Boards
from stemshelf.errors import NoBoards, Stopped


def cells(boards):
    return [[boards.cell(board, number) for number in range(12)] for board in range(boards.many())]


class ManyTest(unittest.TestCase):
    def test_two_to_four(self):
        for many in (2, 3, 4):
            self.assertEqual(Boards(many).many(), many)

    def test_what_is_no_such_number(self):
        for many in (1, 5, 0, -1, -2, 10 ** 9, True, False, None, "2", (2,), [2]):
            with self.subTest(many), self.assertRaises(NoBoards):
                Boards(many)

    def test_a_board_that_is_not_there(self):
        boards = Boards(3)
        for board in (3, 4, -1, True):
            for asked in (lambda: boards.write(board, 1, [1]), lambda: boards.cell(board, 1), lambda: boards.lose(board),
                          lambda: boards.spoil(board, 1, [1]), lambda: boards.spoil(board, 1, None)):
                with self.subTest(board), self.assertRaises(NoBoards):
                    asked()
        boards.stop(0)
        with self.assertRaises(NoBoards):
            boards.write(3, 1, [1])
        self.assertEqual(boards.written(), 0)
        self.assertEqual(cells(boards), [[None] * 12] * 3)


class WriteTest(unittest.TestCase):
    def test_cells_are_empty_at_first(self):
        self.assertEqual(cells(Boards(2)), [[None] * 12] * 2)
        self.assertEqual(Boards(2).written(), 0)

    def test_what_is_written_is_read_back(self):
        boards = Boards(3)
        boards.write(1, 0, [5, 6])
        boards.write(2, 999999, [])
        boards.write(0, 7, [0])
        self.assertEqual(boards.cell(1, 0), [5, 6])
        self.assertEqual(boards.cell(2, 999999), [])
        self.assertEqual(boards.cell(0, 7), [0])
        self.assertIsNone(boards.cell(0, 0))
        self.assertIsNone(boards.cell(2, 0))
        self.assertIsNone(boards.cell(1, 7))
        self.assertEqual(boards.written(), 3)

    def test_in_the_place_of_what_stood_there(self):
        boards = Boards(2)
        boards.write(1, 4, [1, 2, 3])
        boards.write(1, 4, [9])
        self.assertEqual(boards.cell(1, 4), [9])
        self.assertEqual(boards.written(), 2)

    def test_new_lists_each_time(self):
        boards = Boards(2)
        row = [1, 2]
        boards.write(0, 1, row)
        row.append(3)
        self.assertEqual(boards.cell(0, 1), [1, 2])
        boards.cell(0, 1).append(4)
        self.assertEqual(boards.cell(0, 1), [1, 2])
        self.assertEqual(row, [1, 2, 3])
        boards.spoil(0, 1, row)
        row.clear()
        self.assertEqual(boards.cell(0, 1), [1, 2, 3])


class StopTest(unittest.TestCase):
    def test_behind_none(self):
        boards = Boards(2)
        boards.write(0, 1, [1])
        boards.stop(0)
        for board in (0, 1):
            with self.assertRaises(Stopped):
                boards.write(board, 1, [2])
        self.assertEqual(boards.cell(0, 1), [1])
        self.assertIsNone(boards.cell(1, 1))
        self.assertEqual(boards.written(), 1)

    def test_behind_one_and_several_of_all_boards_together(self):
        for many in (1, 2, 5):
            boards = Boards(3)
            boards.stop(many)
            for turn in range(many):
                boards.write(turn % 3, turn, [turn])
            ahead = cells(boards)
            for turn in range(3):
                with self.assertRaises(Stopped):
                    boards.write(turn, 1, [99])
            self.assertEqual(cells(boards), ahead)
            self.assertEqual(boards.written(), many)

    def test_told_to_go_on(self):
        boards = Boards(2)
        boards.stop(0)
        with self.assertRaises(Stopped):
            boards.write(0, 1, [1])
        boards.stop(None)
        for turn in range(9):
            boards.write(0, turn, [1])
        self.assertEqual(boards.written(), 9)

    def test_told_otherwise(self):
        boards = Boards(2)
        boards.stop(0)
        boards.stop(2)
        boards.write(0, 1, [1])
        boards.stop(1)
        boards.write(0, 2, [1])
        with self.assertRaises(Stopped):
            boards.write(0, 3, [1])
        self.assertEqual(boards.written(), 2)
        boards.stop(3)
        boards.stop(None)
        for turn in range(5):
            boards.write(1, turn, [2])
        self.assertEqual(boards.written(), 7)

    def test_a_stop_hinders_no_look_and_no_harm(self):
        boards = Boards(2)
        boards.write(0, 1, [1])
        boards.stop(0)
        self.assertEqual(boards.cell(0, 1), [1])
        boards.spoil(0, 1, [2])
        self.assertEqual(boards.cell(0, 1), [2])
        boards.lose(0)
        self.assertIsNone(boards.cell(0, 1))


class HarmTest(unittest.TestCase):
    def boards(self):
        boards = Boards(3)
        for board in range(3):
            for number in range(4):
                boards.write(board, number, [board, number])
        return boards

    def test_spoilt(self):
        boards = self.boards()
        boards.spoil(1, 2, [7, 7])
        boards.spoil(2, 3, None)
        boards.spoil(0, 9, [8])
        boards.spoil(0, 8, None)
        boards.spoil(0, 0, [])
        due = cells(self.boards())
        due[1][2], due[2][3], due[0][9], due[0][0] = [7, 7], None, [8], []
        self.assertEqual(cells(boards), due)
        self.assertEqual(boards.written(), 12)

    def test_lost(self):
        boards = self.boards()
        boards.lose(1)
        due = cells(self.boards())
        due[1] = [None] * 12
        self.assertEqual(cells(boards), due)
        self.assertEqual(boards.written(), 12)
        boards.write(1, 2, [5])
        self.assertEqual(boards.cell(1, 2), [5])
        self.assertIsNone(boards.cell(1, 3))

    def test_harm_counts_for_no_stop(self):
        boards = self.boards()
        boards.stop(1)
        boards.spoil(0, 1, [5])
        boards.lose(2)
        boards.write(0, 1, [6])
        with self.assertRaises(Stopped):
            boards.write(0, 1, [7])
        self.assertEqual(boards.cell(0, 1), [6])


class TwinsTest(unittest.TestCase):
    def test_two_boards(self):
        self.assertEqual([Boards(2).twins(number) for number in (1, 2, 3)], [(1, 0), (0, 1), (1, 0)])

    def test_three_boards(self):
        due = [(1, 2), (2, 0), (0, 1), (1, 2), (0, 1)]
        self.assertEqual([Boards(3).twins(number) for number in (1, 2, 3, 4, 999999)], due)

    def test_four_boards(self):
        due = [(1, 2), (2, 3), (3, 0), (0, 1), (1, 2), (3, 0)]
        self.assertEqual([Boards(4).twins(number) for number in (1, 2, 3, 4, 5, 999999)], due)


class AgainTest(unittest.TestCase):
    def test_stands_as_these_do(self):
        for many in (2, 3, 4):
            boards = Boards(many)
            boards.write(1, 3, [1, 2])
            boards.write(0, 0, [])
            boards.spoil(1, 5, [9])
            other = boards.again()
            self.assertEqual(other.many(), many)
            self.assertEqual(cells(other), cells(boards))
            self.assertEqual(other.written(), 0)
            self.assertEqual(boards.written(), 2)

    def test_without_a_stop(self):
        boards = Boards(2)
        boards.stop(0)
        other = boards.again()
        other.write(0, 1, [1])
        self.assertEqual(other.written(), 1)
        with self.assertRaises(Stopped):
            boards.write(0, 1, [1])

    def test_neither_changes_the_other(self):
        boards = Boards(2)
        boards.write(0, 1, [1])
        boards.write(1, 1, [1])
        other = boards.again()
        boards.write(0, 1, [2])
        boards.spoil(0, 2, [3])
        self.assertEqual((other.cell(0, 1), other.cell(0, 2)), ([1], None))
        other.lose(1)
        other.stop(0)
        self.assertEqual(boards.cell(1, 1), [1])
        boards.write(1, 1, [4])
        self.assertIsNone(other.cell(1, 1))
        self.assertEqual((boards.written(), other.written()), (4, 0))


if __name__ == "__main__":
    unittest.main()
