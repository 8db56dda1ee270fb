"""Accounts: what they tell of a house, and what is read from them alone."""

import unittest
from fractions import Fraction

from helper import (
    MOST,
    STORY,
    by_chance,
    do,
    do_all,
    every_cell,
    new_house,
    pool_state,
    reached_by,
    refusal_of,
    spoil_copies,
    tree_of,
)
from stemshelf.accounts import account_of, content_by, entry_by, paths_by
from stemshelf.blocks import size_of, tags_in
from stemshelf.shares import space_in


def heights_of(blocks):
    """A dict from tags to heights, by as many turns as there are heights."""
    heights = {tag: 0 for tag in blocks}
    for turn in blocks:
        heights = {tag: max([1 + heights[named] for named in tags_in(block)], default=0)
                   for tag, block in blocks.items()}
    return heights


def holders_of(head, blocks):
    """A dict from tags to the sets of keepers from whose names they are come to."""
    keepers = {named[0]: named[2] for named in head[2] if named[1] == 1}
    holders = {tag: set() for tag in blocks}
    for named in head[2]:
        waiting = [named[4]]
        while waiting:
            tag = waiting.pop()
            holders[tag].add(keepers[named[0] if named[1] == 1 else named[2]])
            waiting.extend(tags_in(blocks[tag]))
    return holders


class AccountTest(unittest.TestCase):
    def told(self, boards, house):
        head, reached = house.head(), reached_by(boards, house.head())
        account = account_of(house)
        self.assertIsInstance(account, tuple)
        self.assertEqual(account[:3], head)
        blocks = {tag: block for tag, (block, count) in reached.items()}
        heights, holders = heights_of(blocks), holders_of(head, blocks)
        self.assertEqual(account[3], tuple(
            (tag[0], tag[1], reached[tag][0], heights[tag], reached[tag][1], tuple(sorted(holders[tag])))
            for tag in sorted(reached)))
        shares = {keeper: Fraction(0) for keeper, bound in head[1]}
        for tag in reached:
            for keeper in holders[tag]:
                shares[keeper] += Fraction(size_of(reached[tag][0]), len(holders[tag]))
        self.assertEqual(account[4], tuple((keeper, (share.numerator, share.denominator))
                                           for keeper, share in sorted(shares.items())))
        self.assertEqual(sum(shares.values()), space_in(house.pool()))

    def read(self, house):
        """What is read from the account alone is what is read in the house."""
        account = account_of(house)
        for name in [named[0] for named in house.head()[2]]:
            self.assertEqual(paths_by(account, name), house.paths(name))
            self.assertEqual(entry_by(account, name, ""), (2, house.tag_at(name, "")))
            for path, kind in house.paths(name):
                self.assertEqual(entry_by(account, name, path), (kind, house.tag_at(name, path)))
                if kind == 1:
                    self.assertEqual(content_by(account, entry_by(account, name, path)[1]), house.read(name, path))

    def test_a_new_house(self):
        self.assertEqual(account_of(new_house(2)[1]), (0, (), (), (), ()))

    def test_keepers_alone(self):
        boards, house = new_house(2, ("keeper", "bob", 7), ("keeper", "ann", 0))
        self.assertEqual(account_of(house), (2, (("ann", 0), ("bob", 7)), (), (), (("ann", (0, 1)), ("bob", (0, 1)))))

    def test_a_small_house(self):
        boards, house = new_house(2, ("keeper", "ann", 99), ("keeper", "bob", 99), ("stem", "a", "ann"),
                                  ("write", "a", "f", "x"), ("seal", "a", "s"), ("grow", "b", "s", "bob"))
        cells = {cell[2][0]: cell for cell in account_of(house)[3]}
        root, row = house.tag_at("a", ""), house.tag_at("a", "f")
        self.assertEqual(cells[2], (root[0], 4, (2, (("f", 1, row),)), 2, 3, ("ann", "bob")))
        self.assertEqual(cells[1][3:], (1, 1, ("ann", "bob")))
        self.assertEqual(cells[0][2:], ((0, "x"), 0, 1, ("ann", "bob")))
        self.assertEqual(account_of(house)[4], (("ann", (22, 1)), ("bob", (22, 1))))

    def test_behind_each_deed(self):
        for many in (2, 3, 4):
            boards, house = new_house(many)
            for deed in STORY:
                do(house, *deed)
                self.told(boards, house)
                self.read(house)

    def test_deeds_by_chance(self):
        for seed in (31, 32):
            boards, house = new_house(3)
            for deed, plain in by_chance(seed, 150):
                do(house, *deed)
                if plain.age % 10 == 0:
                    self.told(boards, house)
            self.told(boards, house)
            self.read(house)

    def test_one_copy_is_enough(self):
        boards, house = new_house(3, *STORY)
        due = account_of(house)
        boards.lose(1)
        self.assertEqual(account_of(house), due)

    def test_lost(self):
        boards, house = new_house(3, *STORY)
        tags = [house.pool().tag(number) for number in house.pool().numbers()]
        for tag in tags:
            rows = {board: boards.cell(board, tag[0]) for board in boards.twins(tag[0])}
            spoil_copies(boards, tag)
            self.assertEqual(refusal_of(account_of, house), ("Lost", {"number": tag[0]}))
            for board, row in rows.items():
                boards.spoil(board, tag[0], row)
        spoil_copies(boards, tags[5])
        spoil_copies(boards, tags[2])
        self.assertEqual(refusal_of(account_of, house), ("Lost", {"number": tags[2][0]}))

    def test_it_stays_as_it_was(self):
        boards, house = new_house(2, *STORY)
        account = account_of(house)
        ahead = repr(account)
        trees = {named[0]: tree_of(house, named[0]) for named in account[2]}
        do_all(house, (("write", "main", "a/b", "new"), ("drop", "main"), ("keeper", "ann", 3)))
        boards.lose(0)
        boards.lose(1)
        self.assertEqual(repr(account), ahead)
        for name, tree in trees.items():
            self.assertEqual(paths_by(account, name), sorted((path, 2 if tree[path] is None else 1) for path in tree))
            for path in tree:
                if tree[path] is not None:
                    self.assertEqual(content_by(account, entry_by(account, name, path)[1]), tree[path])

    def test_telling_changes_nothing(self):
        boards, house = new_house(2, *STORY)
        ahead = house.head(), pool_state(house.pool()), boards.written(), every_cell(boards)
        self.assertEqual(account_of(house), account_of(house))
        self.assertEqual((house.head(), pool_state(house.pool()), boards.written(), every_cell(boards)), ahead)


class ReadByTest(unittest.TestCase):
    def setUp(self):
        boards, house = new_house(2, ("keeper", "ann", MOST), ("stem", "main", "ann"), ("folder", "main", "a"),
                                  ("write", "main", "a/b", "content"), ("write", "main", "c", ""), ("seal", "main", "s"),
                                  ("remove", "main", "a"))
        self.house, self.account = house, account_of(house)

    def test_entries(self):
        self.assertEqual(entry_by(self.account, "s", "a/b"), (1, self.house.tag_at("s", "a/b")))
        self.assertEqual(entry_by(self.account, "s", "a"), (2, self.house.tag_at("s", "a")))
        self.assertEqual(entry_by(self.account, "s", ""), (2, self.house.tag_at("s", "")))
        for path in ("x", "x/y", "c/x", "a/x", "a/b/c", "b"):
            self.assertIsNone(entry_by(self.account, "s", path))
        self.assertIsNone(entry_by(self.account, "main", "a"))

    def test_what_is_refused(self):
        for name in ("x", "ann", "", "Main"):
            self.assertEqual(refusal_of(entry_by, self.account, name, "A"), ("NoName", {"name": name}))
            self.assertEqual(refusal_of(paths_by, self.account, name), ("NoName", {"name": name}))
        for path in ("/", "A", "a/", "a//b", "abcdefghi", "a/b/c/d/e/f/g/h/i", " "):
            self.assertEqual(refusal_of(entry_by, self.account, "s", path), ("NoPath", {"path": path}))

    def test_paths(self):
        self.assertEqual(paths_by(self.account, "s"), [("a", 2), ("a/b", 1), ("c", 1)])
        self.assertEqual(paths_by(self.account, "main"), [("c", 1)])
        paths_by(self.account, "s").clear()
        self.assertEqual(len(paths_by(self.account, "s")), 3)

    def test_contents(self):
        self.assertEqual(content_by(self.account, self.house.tag_at("s", "a/b")), "content")
        self.assertEqual(content_by(self.account, self.house.tag_at("s", "c")), "")


if __name__ == "__main__":
    unittest.main()
