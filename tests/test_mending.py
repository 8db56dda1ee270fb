"""Copies told, what is lost and what needs it, and boards mended, by themselves and by an account."""

import random
import unittest

from helper import MOST, STORY, every_cell, new_house, reached_by, refusal_of, spoil_copies, told_by
from stemshelf.accounts import account_of
from stemshelf.boards import Boards
from stemshelf.copies import right_copies
from stemshelf.mending import copies_told, lost_in, mended, mended_by
from stemshelf.opening import opened

NO_HOUSE = ("NoHouse", {})
LONG = "a content of several pieces, more than eight of them at least, and of rows of rows"


class MendingTest(unittest.TestCase):
    def world(self, many):
        """Stems main and other, a seal s of main; b of main, d of other and s's old a hang on different blocks."""
        self.boards, self.house = new_house(
            many, ("keeper", "ann", MOST), ("stem", "main", "ann"), ("folder", "main", "f"),
            ("write", "main", "f/a", LONG), ("write", "main", "b", "xyz"), ("seal", "main", "s"),
            ("write", "main", "b", "quite another"), ("stem", "other", "ann"), ("write", "other", "d", LONG + "!"),
            ("copy", "other", "g", "main", "f"))

    def tags(self):
        return [self.house.pool().tag(number) for number in self.house.pool().numbers()]

    def file_tags(self, name, path):
        found, waiting = set(), [self.house.tag_at(name, path)]
        while waiting:
            tag = waiting.pop()
            found.add(tag)
            waiting.extend(self.house.pool().tags(tag[0]))
        return found


class CopiesToldTest(MendingTest):
    def test_all_are_laid_twice(self):
        for many in (2, 3, 4):
            self.world(many)
            self.assertEqual(copies_told(self.boards), [(tag[0], tag[1], 2) for tag in self.tags()])

    def test_a_new_house(self):
        self.assertEqual(copies_told(new_house(2)[0]), [])

    def test_no_house(self):
        self.assertEqual(refusal_of(copies_told, Boards(2)), NO_HOUSE)

    def test_none_one_and_two(self):
        self.world(3)
        pieces = [tag for tag in self.tags() if self.house.pool().tags(tag[0]) == []]
        left = {tag: 2 for tag in self.tags()}
        for place, tag in enumerate(pieces):
            spoil_copies(self.boards, tag, [(), (0,), (1,), (0, 1)][place % 4])
            left[tag] = (2, 1, 1, 0)[place % 4]
        self.assertEqual(copies_told(self.boards), [(tag[0], tag[1], left[tag]) for tag in sorted(left)])

    def test_through_such_as_can_be_read(self):
        self.world(2)
        tags = self.tags()
        top = self.house.tag_at("main", "b")
        beneath = self.file_tags("main", "b") - {top}
        spoil_copies(self.boards, top)
        self.assertEqual(copies_told(self.boards),
                         [(tag[0], tag[1], 0 if tag == top else 2) for tag in tags if tag not in beneath])

    def test_wrong_copies_of_all_sorts(self):
        self.world(2)
        tag = self.house.tag_at("main", "b")
        board = self.boards.twins(tag[0])[0]
        other = self.house.tag_at("main", "f/a")
        for row in (None, [], [5], self.boards.cell(self.boards.twins(other[0])[0], other[0]), [2, 3, 0, 1],
                    self.boards.cell(board, 0)):
            self.boards.spoil(board, tag[0], row)
            self.assertIn((tag[0], tag[1], 1), copies_told(self.boards))

    def test_a_new_list_each_time(self):
        self.world(2)
        copies_told(self.boards).clear()
        self.assertEqual(len(copies_told(self.boards)), len(self.tags()))
        self.assertEqual(mended(self.boards), [])


class LostInTest(MendingTest):
    def lost(self, *tags):
        other = self.boards.again()
        for tag in tags:
            spoil_copies(other, tag)
        return lost_in(other)

    def test_nothing_lost(self):
        self.world(2)
        self.assertEqual(lost_in(self.boards), [])
        for number in self.house.pool().numbers():
            spoil_copies(self.boards, self.house.pool().tag(number), (number % 2,))
        self.assertEqual(lost_in(self.boards), [])
        self.assertEqual(lost_in(new_house(3)[0]), [])

    def test_no_house(self):
        self.assertEqual(refusal_of(lost_in, Boards(3)), NO_HOUSE)

    def test_a_file(self):
        self.world(3)
        top = self.house.tag_at("s", "b")
        self.assertEqual(self.lost(top), [(top[0], [("s", "b")])])
        top = self.house.tag_at("main", "f/a")
        self.assertEqual(self.lost(top), [(top[0], [("main", "f/a"), ("other", "g/a"), ("s", "f/a")])])

    def test_each_block_of_files(self):
        self.world(3)
        files = [(named[0], path) for named in self.house.head()[2] for path, kind in self.house.paths(named[0])
                 if kind == 1]
        blocks = {file: self.file_tags(*file) for file in files}
        for tag in set().union(*blocks.values()):
            self.assertEqual(self.lost(tag), [(tag[0], sorted(file for file in files if tag in blocks[file]))])

    def test_a_folder_is_needed_by_itself_alone(self):
        self.world(4)
        tag = self.house.tag_at("main", "f")
        self.assertEqual(self.lost(tag), [(tag[0], [("main", "f"), ("other", "g"), ("s", "f")])])

    def test_the_root(self):
        self.world(2)
        tag = self.house.tag_at("main", "")
        self.assertEqual(self.lost(tag), [(tag[0], [("main", "")])])
        self.boards, self.house = new_house(2, ("keeper", "ann", MOST), ("stem", "a", "ann"), ("stem", "b", "ann"),
                                            ("seal", "b", "c"), ("folder", "b", "x"))
        tag = self.house.tag_at("a", "")
        self.assertEqual(self.house.tag_at("b", "x"), tag)
        self.assertEqual(self.lost(tag), [(tag[0], [("a", ""), ("b", "x"), ("c", "")])])

    def test_several_at_once(self):
        self.world(3)
        root, top = self.house.tag_at("s", ""), self.house.tag_at("main", "f/a")
        due = [(root[0], [("s", "")]), (top[0], [("main", "f/a"), ("other", "g/a")])]
        self.assertEqual(self.lost(root, top), sorted(due))
        folder = self.house.tag_at("main", "f")
        due = [(root[0], [("s", "")]), (folder[0], [("main", "f"), ("other", "g")])]
        self.assertEqual(self.lost(root, top, folder), sorted(due))

    def test_what_lies_beneath_a_lost_one_isnt_told(self):
        self.world(2)
        blocks = sorted(self.file_tags("s", "b"))
        top = self.house.tag_at("s", "b")
        self.assertEqual(self.lost(*blocks), [(top[0], [("s", "b")])])

    def test_a_block_that_is_twice_in_a_file_is_told_once(self):
        self.boards, self.house = new_house(2, ("keeper", "ann", MOST), ("stem", "a", "ann"),
                                            ("write", "a", "f", "!!!!!!!!" * 3))
        piece = self.house.pool().tags(self.house.tag_at("a", "f")[0])
        self.assertGreater(len(piece), len(set(piece)))
        self.assertEqual(self.lost(piece[0]), [(piece[0][0], [("a", "f")])])

    def test_by_chance_against_what_can_be_read(self):
        self.world(3)
        tags = self.tags()
        for seed in range(40):
            gone = random.Random(seed).sample(tags, 1 + seed % 6)
            other = self.boards.again()
            for tag in gone:
                spoil_copies(other, tag)
            lost = lost_in(other)
            self.assertEqual([number for number, needs in lost],
                             [number for number, birth, right in copies_told(other) if right == 0])
            self.assertEqual([needs for number, needs in lost], [sorted(set(needs)) for number, needs in lost])
            unread = {need for number, needs in lost for need in needs}
            for name in ("main", "other", "s"):
                for path, kind in [("", 2)] + self.house.paths(name):
                    above = [""] + ["/".join(path.split("/")[:many]) for many in range(1, path.count("/") + 1)]
                    is_come_to = path == "" or all((name, folder) not in unread for folder in above)
                    needed = self.file_tags(name, path) if kind == 1 else {self.house.tag_at(name, path)}
                    self.assertEqual((name, path) in unread, is_come_to and bool(needed & set(gone)))

    def test_new_lists_and_nothing_written(self):
        self.world(2)
        tag = self.house.tag_at("s", "b")
        spoil_copies(self.boards, tag)
        written, cells = self.boards.written(), every_cell(self.boards)
        told = lost_in(self.boards)
        told[0][1].clear()
        told.clear()
        self.assertEqual(lost_in(self.boards), [(tag[0], [("s", "b")])])
        self.assertEqual((self.boards.written(), every_cell(self.boards)), (written, cells))


class MendedTest(MendingTest):
    def test_nothing_to_mend(self):
        for many in (2, 3, 4):
            self.world(many)
            written = self.boards.written()
            self.assertEqual(mended(self.boards), [])
            self.assertEqual(self.boards.written(), written)

    def test_no_house(self):
        boards = Boards(2)
        self.assertEqual(refusal_of(mended, boards), NO_HOUSE)
        self.assertEqual(boards.written(), 0)

    def test_one_copy_of_each(self):
        for many in (2, 3, 4):
            self.world(many)
            cells = every_cell(self.boards)
            numbers = self.house.pool().numbers()
            self.boards.seen.clear()
            for number in numbers:
                spoil_copies(self.boards, self.house.pool().tag(number), (number // 2 % 2,))
            self.assertEqual(mended(self.boards), numbers)
            for number in numbers:
                for board in range(many):
                    self.assertEqual(self.boards.cell(board, number), cells[board].get(number))
            self.assertEqual(len(self.boards.seen), len(numbers))
            self.assertEqual(mended(self.boards), [])
            self.assertEqual(self.house.age(), opened(self.boards).age() - 1)

    def test_a_lost_board(self):
        for many in (2, 3, 4):
            for board in range(many):
                self.world(many)
                numbers = self.house.pool().numbers()
                ahead = {number: self.boards.cell(board, number) for number in [0] + numbers}
                self.boards.lose(board)
                lacking = [number for number in numbers if board in self.boards.twins(number)]
                self.assertEqual(mended(self.boards), [0] + lacking)
                self.assertEqual({number: self.boards.cell(board, number) for number in [0] + numbers}, ahead)
                self.assertEqual(mended(self.boards), [])
                self.boards.lose((board + 1) % many)
                self.assertEqual(told_by(opened(self.boards)), told_by(self.house))

    def test_the_head_alone(self):
        self.world(4)
        row = self.boards.cell(0, 0)
        self.boards.seen.clear()
        for board, wrong in ((0, None), (2, [1]), (3, [])):
            self.boards.spoil(board, 0, wrong)
        self.assertEqual(mended(self.boards), [0])
        self.assertEqual(sorted(self.boards.seen), [(board, 0, row) for board in (0, 2, 3)])

    def test_an_elder_head_is_written_over(self):
        self.world(2)
        elder = self.boards.cell(1, 0)
        self.house.keeper("bob", 5)
        self.boards.spoil(1, 0, elder)
        self.assertEqual(mended(self.boards), [0])
        self.assertEqual(self.boards.cell(1, 0), self.boards.cell(0, 0))

    def test_the_right_copys_list_as_it_stands(self):
        self.world(2)
        tag = self.house.tag_at("s", "b")
        board, other = self.boards.twins(tag[0])
        row = self.boards.cell(other, tag[0])
        self.boards.spoil(board, tag[0], [1, 2, 3])
        self.assertEqual(mended(self.boards), [tag[0]])
        self.assertEqual(self.boards.cell(board, tag[0]), row)
        self.assertEqual(right_copies(self.boards, tag), sorted((board, other)))

    def test_lost_ones_stay_lost(self):
        self.world(3)
        tag, other = self.house.tag_at("s", "b"), self.house.tag_at("main", "b")
        spoil_copies(self.boards, tag)
        spoil_copies(self.boards, other, (1,))
        self.assertEqual(mended(self.boards), [other[0]])
        self.assertEqual(lost_in(self.boards), [(tag[0], [("s", "b")])])
        self.assertEqual(refusal_of(opened, self.boards), ("Lost", {"number": tag[0]}))

    def test_what_isnt_reached_is_left(self):
        self.world(2)
        self.boards.spoil(0, 999, [1, 2, 3])
        self.assertEqual(mended(self.boards), [])
        self.assertEqual(self.boards.cell(0, 999), [1, 2, 3])

    def test_stopped_and_mended_again(self):
        self.world(2)
        due = told_by(self.house)
        self.boards.lose(0)
        total = len(self.house.pool().numbers()) + 1
        for many in range(total):
            other = self.boards.again()
            other.stop(many)
            self.assertEqual(refusal_of(mended, other), ("Stopped", {}))
            other.stop(None)
            self.assertEqual(len(mended(other)), total - many)
            self.assertEqual(mended(other), [])
            other.lose(1)
            self.assertEqual(told_by(opened(other)), due)

    def test_the_house_goes_on(self):
        self.world(3)
        self.boards.lose(1)
        mended(self.boards)
        self.boards.lose(2)
        mended(self.boards)
        self.house.write("main", "more", LONG)
        self.assertEqual(self.house.tag_at("main", "more"), self.house.tag_at("main", "f/a"))


class MendedByTest(MendingTest):
    def test_all_lost_but_the_head(self):
        for many in (2, 3, 4):
            self.world(many)
            account, cells = account_of(self.house), every_cell(self.boards)
            head = self.boards.cell(0, 0)
            for board in range(many):
                self.boards.lose(board)
            self.boards.spoil(many - 1, 0, head)
            self.assertEqual(mended_by(self.boards, account), self.house.pool().numbers())
            for number in self.house.pool().numbers():
                for board in range(many):
                    self.assertEqual(self.boards.cell(board, number), cells[board].get(number))
            self.assertEqual(mended_by(self.boards, account), [])
            self.assertEqual(mended(self.boards), [0])
            self.assertEqual(told_by(opened(self.boards)), told_by(self.house))

    def test_only_what_is_lost_is_laid(self):
        self.world(3)
        account = account_of(self.house)
        tag, other = self.house.tag_at("s", "b"), self.house.tag_at("main", "b")
        spoil_copies(self.boards, tag)
        spoil_copies(self.boards, other, (0,))
        self.boards.seen.clear()
        self.assertEqual(mended_by(self.boards, account), [tag[0]])
        self.assertEqual([(board, number) for board, number, row in self.boards.seen],
                         [(board, tag[0]) for board in self.boards.twins(tag[0])])
        self.assertEqual(mended(self.boards), [other[0]])
        self.assertEqual(mended_by(self.boards, account), [])

    def test_by_an_elder_account(self):
        self.world(3)
        elder = account_of(self.house)
        for deed in (("write", "main", "new", "what the account doesn't tell"), ("drop", "s"), ("remove", "other", "d")):
            getattr(self.house, deed[0])(*deed[1:])
        told = {(cell[0], cell[1]) for cell in elder[3]}
        new = [tag for tag in self.tags() if tag[:2] not in told]
        old = [tag for tag in self.tags() if tag[:2] in told]
        self.assertNotEqual((new, old), ([], []))
        for tag in old:
            spoil_copies(self.boards, tag)
        self.assertEqual(mended_by(self.boards, elder), sorted(tag[0] for tag in old))
        self.assertEqual(told_by(opened(self.boards.again())), told_by(self.house))
        for tag in self.tags():
            spoil_copies(self.boards, tag)
        # the roots are newer than the account, so that nothing else is come to
        self.assertEqual(mended_by(self.boards, elder), [])

    def test_in_several_turns(self):
        self.world(2)
        elder = account_of(self.house)
        folder, top = self.house.tag_at("main", "f"), self.house.tag_at("main", "f/a")
        rows = [tag for tag in self.file_tags("main", "f/a") if self.house.pool().tags(tag[0])]
        self.assertGreater(len(rows), 2)
        for tag in {folder} | self.file_tags("main", "f/a"):
            spoil_copies(self.boards, tag)
        laid = mended_by(self.boards, elder)
        self.assertIn(folder[0], laid)
        self.assertIn(top[0], laid)
        self.assertEqual(laid, sorted(tag[0] for tag in {folder} | self.file_tags("main", "f/a")))
        self.assertEqual(opened(self.boards).read("main", "f/a"), LONG)

    def test_by_two_accounts_one_behind_the_other(self):
        self.world(2)
        elder = account_of(self.house)
        self.house.write("main", "f/new", "another content")
        later = account_of(self.house)
        for tag in self.tags():
            spoil_copies(self.boards, tag)
        self.assertEqual(mended_by(self.boards, later), self.house.pool().numbers())
        for tag in self.tags():
            spoil_copies(self.boards, tag)
        first = mended_by(self.boards, elder)
        self.assertLess(len(first), len(self.tags()))
        mended_by(self.boards, later)
        self.assertEqual(lost_in(self.boards), [])

    def test_numbers_births_and_sums_all_count(self):
        self.world(2)
        account = account_of(self.house)
        self.house.remove("main", "b")
        # cells that are free by now are taken anew, of another birth
        self.house.write("main", "b", "!")
        told = {cell[0]: cell[1] for cell in account[3]}
        anew = [tag for tag in self.tags() if told.get(tag[0], tag[1]) != tag[1]]
        self.assertNotEqual(anew, [])
        for tag in anew:
            spoil_copies(self.boards, tag)
        self.assertEqual(mended_by(self.boards, account), [])
        self.assertNotEqual(lost_in(self.boards), [])

    def test_another_houses_account_lays_nothing(self):
        self.world(2)
        boards, other = new_house(2, ("keeper", "ann", 5))
        tag = self.house.tag_at("main", "b")
        spoil_copies(self.boards, tag)
        self.assertEqual(mended_by(self.boards, account_of(other)), [])
        self.assertEqual(lost_in(self.boards), [(tag[0], [("main", "b")])])

    def test_nothing_lost(self):
        self.world(2)
        self.assertEqual(mended_by(self.boards, account_of(self.house)), [])

    def test_no_paper_ahead_of_all(self):
        self.world(2)
        account = account_of(self.house)
        for tag in self.tags():
            spoil_copies(self.boards, tag)
        cells = every_cell(self.boards)
        for wrong in (None, (), [], 5, "account", list(account), account[:4], account + (0,), account[:4] + ((),),
                      (True,) + account[1:], account[:3] + (account[3][1:], account[4])):
            self.assertEqual(refusal_of(mended_by, self.boards, wrong), ("NoPaper", {}))
            self.assertEqual(refusal_of(mended_by, Boards(2), wrong), ("NoPaper", {}))
            self.boards.stop(0)
            self.assertEqual(refusal_of(mended_by, self.boards, wrong), ("NoPaper", {}))
            self.boards.stop(None)
            self.assertEqual(every_cell(self.boards), cells)
        self.assertEqual(refusal_of(mended_by, Boards(2), account), NO_HOUSE)

    def test_stopped_and_mended_again(self):
        self.world(3)
        account = account_of(self.house)
        for tag in self.tags():
            spoil_copies(self.boards, tag)
        total = 2 * len(self.tags())
        for many in range(0, total, 7):
            other = self.boards.again()
            other.stop(many)
            self.assertEqual(refusal_of(mended_by, other, account), ("Stopped", {}))
            other.stop(None)
            mended_by(other, account)
            mended(other)
            self.assertEqual({right for number, birth, right in copies_told(other)}, {2})

    def test_the_account_is_not_changed(self):
        self.world(2)
        account = account_of(self.house)
        same = account_of(self.house)
        for tag in self.tags():
            spoil_copies(self.boards, tag)
        told = mended_by(self.boards, account)
        told.clear()
        self.assertEqual(account, same)

    def test_in_a_story(self):
        boards, house = new_house(4, *STORY)
        account = account_of(house)
        for tag in reached_by(boards, house.head()):
            spoil_copies(boards, tag)
        self.assertEqual(len(lost_in(boards)), len({named[4] for named in house.head()[2]}))
        mended_by(boards, account)
        self.assertEqual(told_by(opened(boards)), told_by(house))


if __name__ == "__main__":
    unittest.main()
