"""Boards opened: the house that they tell, one older, or what refuses it."""

import unittest

from helper import MOST, STORY, do_all, every_cell, new_house, pool_state, refusal_of, spoil_copies, told_by
from stemshelf.boards import Boards
from stemshelf.heads import lay_head
from stemshelf.house import House
from stemshelf.marks import sealed
from stemshelf.opening import opened
from stemshelf.things import words_of

NO_HOUSE = ("NoHouse", {})


class OpenedTest(unittest.TestCase):
    def same(self, boards, house):
        """Opened, the boards tell this house, one older."""
        head = house.head()
        again = opened(boards)
        self.assertIsInstance(again, House)
        self.assertEqual(again.head(), (head[0] + 1,) + head[1:])
        self.assertEqual(again.age(), head[0] + 1)
        self.assertEqual(told_by(again), told_by(house))
        self.assertEqual(pool_state(again.pool()), pool_state(house.pool()))
        return again

    def test_a_new_house(self):
        for many in (2, 3, 4):
            boards, house = new_house(many)
            self.assertEqual(self.same(boards, house).pool().numbers(), [])

    def test_behind_each_deed(self):
        boards, house = new_house(3)
        for deed in STORY:
            do_all(house, [deed])
            self.same(boards.again(), house)

    def test_the_head_one_older_is_all_that_is_written(self):
        for many in (2, 3, 4):
            boards, house = new_house(many, *STORY)
            boards.seen.clear()
            head = opened(boards).head()
            row = sealed(words_of(head))
            self.assertEqual(boards.seen, [(board, 0, row) for board in range(many)])

    def test_again_and_again(self):
        boards, house = new_house(2, *STORY)
        for turn in range(5):
            house = self.same(boards, house)
        self.assertEqual(house.age(), len(STORY) + 5)

    def test_it_goes_on(self):
        boards, house = new_house(3, *STORY)
        elder = house.tag_at("main", "a/b")
        house = opened(boards)
        self.assertEqual(house.tag_at("main", "a/b"), elder)
        house.write("main", "again", house.read("main", "a/b"))
        self.assertEqual(house.tag_at("main", "again"), elder)
        house.write("main", "new", "something")
        self.assertEqual(house.tag_at("main", "new")[1], house.age())
        self.same(boards, house)

    def test_seals_and_stems_of_one_tree_are_held_each(self):
        boards, house = new_house(2, ("keeper", "ann", MOST), ("stem", "a", "ann"), ("stem", "b", "ann"),
                                  ("seal", "a", "s"), ("folder", "b", "x"))
        again = self.same(boards, house)
        root = again.tag_at("a", "")
        self.assertEqual(again.pool().count(root[0]), 3)
        for name in ("b", "s"):
            again.drop(name)
        self.assertEqual(again.pool().count(root[0]), 1)
        again.drop("a")
        self.assertEqual(again.pool().numbers(), [])

    def test_what_isnt_reached_is_free(self):
        boards, house = new_house(2, *STORY)
        names = [named[0] for named in house.head()[2] if named[1] == 1]
        ahead = house.pool().numbers()
        boards.stop(3)
        self.assertEqual(refusal_of(house.write, names[0], "new", "a content that is new")[0], "Stopped")
        boards.stop(None)
        self.assertEqual(opened(boards).pool().numbers(), ahead)


class NoHouseTest(unittest.TestCase):
    def test_empty_boards(self):
        for many in (2, 3, 4):
            boards = Boards(many)
            self.assertEqual(refusal_of(opened, boards), NO_HOUSE)
            self.assertEqual(boards.written(), 0)

    def test_no_sound_head(self):
        boards, house = new_house(2, *STORY)
        written = boards.written()
        for row in (None, [], [0], [2, 0, 0], sealed(words_of((1, 2, 3))), [-1], sealed([9])):
            for board in range(2):
                boards.spoil(board, 0, row)
            cells = every_cell(boards)
            self.assertEqual(refusal_of(opened, boards), NO_HOUSE)
            self.assertEqual((boards.written(), every_cell(boards)), (written, cells))


class SpoiltTest(unittest.TestCase):
    def same(self, boards, house):
        again = opened(boards)
        self.assertEqual(told_by(again), told_by(house))
        self.assertEqual(again.age(), house.age() + 1)
        self.assertEqual(pool_state(again.pool()), pool_state(house.pool()))

    def test_one_board_lost(self):
        for many in (2, 3, 4):
            boards, house = new_house(many, *STORY)
            for board in range(many):
                other = boards.again()
                other.lose(board)
                self.same(other, house)

    def test_one_copy_of_each_block_spoilt(self):
        for many in (2, 3, 4):
            boards, house = new_house(many, *STORY)
            for places in ((0, 0), (1, 1), (0, 1), (1, 0)):
                other = boards.again()
                for number in house.pool().numbers():
                    spoil_copies(other, house.pool().tag(number), (places[number % 2],))
                self.same(other, house)

    def test_one_word_of_a_copy_changed(self):
        boards, house = new_house(2, *STORY[:5])
        for number in house.pool().numbers():
            board = boards.twins(number)[0]
            row = boards.cell(board, number)
            for place in range(len(row)):
                other = boards.again()
                other.spoil(board, number, row[:place] + [row[place] + 1] + row[place + 1:])
                self.same(other, house)

    def test_heads_spoilt_on_all_boards_but_one(self):
        for many in (2, 3, 4):
            boards, house = new_house(many, *STORY)
            for sound in range(many):
                other = boards.again()
                for board in range(many):
                    if board != sound:
                        other.spoil(board, 0, (None, [1, 2, 3], [0])[board % 3])
                self.same(other, house)
                self.assertEqual(len({tuple(other.cell(board, 0)) for board in range(many)}), 1)

    def test_the_greatest_age(self):
        boards, house = new_house(3, *STORY)
        elder = boards.again()
        lay_head(elder, (3, (), ()))
        for board in (0, 2):
            boards.spoil(board, 0, elder.cell(board, 0))
        self.same(boards, house)


class LostTest(unittest.TestCase):
    def setUp(self):
        self.boards, self.house = new_house(
            3, ("keeper", "ann", MOST), ("stem", "main", "ann"), ("folder", "main", "a"),
            ("write", "main", "a/b", "a content of several pieces, more than eight of them at least"),
            ("write", "main", "c", "another one"), ("stem", "other", "ann"), ("write", "other", "d", "a third"))

    def refused(self, number):
        written, cells = self.boards.written(), every_cell(self.boards)
        self.assertEqual(refusal_of(opened, self.boards), ("Lost", {"number": number}))
        self.assertEqual((self.boards.written(), every_cell(self.boards)), (written, cells))

    def test_each_block_alone(self):
        for number in self.house.pool().numbers():
            rows = {board: self.boards.cell(board, number) for board in self.boards.twins(number)}
            spoil_copies(self.boards, self.house.pool().tag(number))
            self.refused(number)
            for board, row in rows.items():
                self.boards.spoil(board, number, row)
        self.assertEqual(told_by(opened(self.boards)), told_by(self.house))

    def test_of_several_the_least(self):
        numbers = [self.house.tag_at("main", "c")[0], self.house.tag_at("other", "d")[0],
                   self.house.tag_at("main", "a/b")[0]]
        for number in numbers:
            spoil_copies(self.boards, self.house.pool().tag(number))
        self.refused(min(numbers))

    def test_what_lies_beneath_a_lost_one_isnt_come_to(self):
        pool = self.house.pool()
        top = self.house.tag_at("main", "a/b")[0]
        beneath, waiting = set(), [top]
        while waiting:
            for tag in pool.tags(waiting.pop()):
                beneath.add(tag[0])
                waiting.append(tag[0])
        self.assertLess(min(beneath), top)
        for number in beneath:
            spoil_copies(self.boards, pool.tag(number))
        self.refused(min(number for number in beneath if number in [tag[0] for tag in pool.tags(top)]))
        spoil_copies(self.boards, pool.tag(top))
        self.refused(top)
        root = self.house.tag_at("main", "")
        spoil_copies(self.boards, root)
        self.refused(root[0])

    def test_all_boards_lost_but_the_heads(self):
        heads = [self.boards.cell(board, 0) for board in range(3)]
        for board in range(3):
            self.boards.lose(board)
            self.boards.spoil(board, 0, heads[board])
        self.refused(min(self.house.tag_at(name, "")[0] for name in ("main", "other")))

    def test_a_copy_of_another_birth_is_not_right(self):
        tag = self.house.tag_at("main", "c")
        block = self.house.pool().block(tag)
        row = sealed(words_of((tag[0], tag[1] + 1, block)))
        for board in self.boards.twins(tag[0]):
            self.boards.spoil(board, tag[0], row)
        self.refused(tag[0])

    def test_lost_comes_ahead_of_a_stop(self):
        tag = self.house.tag_at("main", "c")
        spoil_copies(self.boards, tag)
        self.boards.stop(0)
        self.refused(tag[0])


if __name__ == "__main__":
    unittest.main()
