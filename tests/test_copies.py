import unittest

from stemshelf.boards import Boards
from stemshelf.blocks import sum_of
from stemshelf.copies import fetched, lay, right_copies
from stemshelf.errors import Lost, Stopped
from stemshelf.marks import sealed
from stemshelf.things import words_of

PIECE = (0, "oak")
BLOCKS = (PIECE, (1, 1, ()), (1, 2, ((1, 2, 3), (4, 5, 6))), (2, ()), (2, (("a", 1, (1, 2, 3)), ("b", 2, (4, 5, 6)))))


def row_of(thing):
    return sealed(words_of(thing))


def laid(many, number, birth, block):
    boards = Boards(many)
    lay(boards, number, birth, block)
    return boards


class LayTest(unittest.TestCase):
    def test_both_twins_get_the_sealed_words(self):
        boards = laid(4, 6, 0, (0, "&"))
        # 2*1 3*2 0 6*4 0 0 2*7 2*8 0 0 1*11 1*12 5*13
        row = [2, 3, 0, 6, 0, 0, 2, 2, 0, 0, 1, 1, 5, 150]
        self.assertEqual([boards.cell(board, 6) for board in range(4)], [None, None, row, row])
        self.assertEqual(boards.written(), 2)

    def test_of_each_kind_of_block(self):
        for block in BLOCKS:
            boards = laid(3, 5, 9, block)
            row = row_of((5, 9, block))
            self.assertEqual([boards.cell(board, 5) for board in range(3)], [row, None, row])

    def test_the_first_twin_first_also_when_stopped_between(self):
        for number, first, second in ((1, 1, 0), (2, 0, 1)):
            boards = Boards(2)
            boards.stop(1)
            with self.assertRaises(Stopped):
                lay(boards, number, 3, PIECE)
            self.assertEqual(boards.cell(first, number), row_of((number, 3, PIECE)))
            self.assertIsNone(boards.cell(second, number))
            self.assertEqual(fetched(boards, (number, 3, sum_of(PIECE))), PIECE)

    def test_stopped_ahead(self):
        boards = Boards(2)
        boards.stop(0)
        with self.assertRaises(Stopped):
            lay(boards, 1, 3, PIECE)
        self.assertEqual((boards.cell(0, 1), boards.cell(1, 1)), (None, None))


class RightTest(unittest.TestCase):
    tag = (3, 7, sum_of(PIECE))
    other_sum = (0, "elm")

    def wrong_rows(self):
        right = row_of((3, 7, PIECE))
        yield None
        yield []
        for place in range(len(right)):
            yield right[:place] + [right[place] + 1] + right[place + 1:]
        yield words_of((3, 7, PIECE))
        for thing in ((4, 7, PIECE), (3, 8, PIECE), (3, 6, PIECE), (3, 7, self.other_sum), (3, 7, "oak"), (3, 7, (0, "")),
                      (3, 7, (0, "oak", 1)), (3, 7, (3, "oak")), (3, 7), (3, 7, PIECE, 0), (), 3, "oak", PIECE,
                      (3, (7,), PIECE), ("3", 7, PIECE)):
            yield row_of(thing)
        yield sealed([])
        yield sealed(words_of((3, 7, PIECE)) + [0])
        yield sealed(words_of((3, 7, PIECE))[:-1])
        yield sealed([3])

    def test_both_right(self):
        for many in (2, 3, 4):
            for number in range(1, 9):
                boards = laid(many, number, 7, PIECE)
                tag = (number, 7, sum_of(PIECE))
                self.assertEqual(right_copies(boards, tag), sorted(boards.twins(number)))
                self.assertEqual(fetched(boards, tag), PIECE)

    def test_of_each_kind_of_block(self):
        for block in BLOCKS:
            boards = laid(4, 3, 0, block)
            self.assertEqual(right_copies(boards, (3, 0, sum_of(block))), [0, 3])
            self.assertEqual(fetched(boards, (3, 0, sum_of(block))), block)

    def test_each_twin_spoilt_in_turn(self):
        for spoilt, right in ((0, 3), (3, 0)):
            for row in self.wrong_rows():
                boards = laid(4, 3, 7, PIECE)
                boards.spoil(spoilt, 3, row)
                with self.subTest(row):
                    self.assertEqual(right_copies(boards, self.tag), [right])
                    self.assertEqual(fetched(boards, self.tag), PIECE)

    def test_none_right(self):
        for row in self.wrong_rows():
            boards = laid(4, 3, 7, PIECE)
            boards.spoil(0, 3, row)
            boards.spoil(3, 3, row)
            with self.subTest(row):
                self.assertEqual(right_copies(boards, self.tag), [])
                with self.assertRaises(Lost) as caught:
                    fetched(boards, self.tag)
                self.assertEqual(caught.exception.number, 3)

    def test_other_tags(self):
        boards = laid(4, 3, 7, PIECE)
        total = sum_of(PIECE)
        for tag in ((3, 6, total), (3, 8, total), (3, 7, total + 1), (7, 7, total), (4, 7, total)):
            self.assertEqual(right_copies(boards, tag), [])
            with self.assertRaises(Lost) as caught:
                fetched(boards, tag)
            self.assertEqual(caught.exception.number, tag[0])

    def test_a_copy_elsewhere_is_none(self):
        boards = Boards(4)
        boards.spoil(1, 3, row_of((3, 7, PIECE)))
        boards.spoil(3, 4, row_of((3, 7, PIECE)))
        self.assertEqual(right_copies(boards, self.tag), [])

    def test_the_first_right_copy_by_the_twins_in_turn(self):
        one, other = (0, " @"), (0, "! ")
        tag = (3, 7, sum_of(one))
        boards = Boards(4)
        boards.spoil(3, 3, row_of((3, 7, one)))
        boards.spoil(0, 3, row_of((3, 7, other)))
        self.assertEqual(right_copies(boards, tag), [0, 3])
        self.assertEqual(fetched(boards, tag), one)
        boards.spoil(3, 3, None)
        self.assertEqual(fetched(boards, tag), other)

    def test_no_write_is_done_by_reading(self):
        boards = laid(4, 3, 7, PIECE)
        boards.stop(0)
        boards.spoil(3, 3, [5])
        right_copies(boards, self.tag)
        fetched(boards, self.tag)
        self.assertEqual(boards.written(), 2)
        self.assertEqual(boards.cell(3, 3), [5])

    def test_each_time_a_new_list(self):
        boards = laid(4, 3, 7, PIECE)
        right_copies(boards, self.tag).append(9)
        self.assertEqual(right_copies(boards, self.tag), [0, 3])


if __name__ == "__main__":
    unittest.main()
