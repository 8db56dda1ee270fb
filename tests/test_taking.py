"""Trees of accounts taken in as new stems."""

import unittest

from helper import (
    MOST,
    STORY,
    all_of,
    by_chance,
    do,
    do_all,
    file,
    folder,
    made,
    new_house,
    piece,
    reached_by,
    refusal_of,
    row,
    stands,
    stem,
    told_by,
    tree_of,
)
from stemshelf.accounts import account_of
from stemshelf.blocks import size_of
from stemshelf.boards import Boards
from stemshelf.heads import is_head
from stemshelf.house import House
from stemshelf.looker import lets_by
from stemshelf.opening import opened
from stemshelf.shares import share_in
from stemshelf.taking import take_in

NO_PAPER = ("NoPaper", {})
LONG = "a content of several pieces, more than eight of them at least, and of rows of rows"


def source_house():
    return new_house(3, ("keeper", "zed", MOST), ("stem", "tree", "zed"), ("folder", "tree", "a"),
                     ("folder", "tree", "a/b"), ("write", "tree", "a/b/c", LONG), ("write", "tree", "a/d", ""),
                     ("seal", "tree", "old"), ("write", "tree", "a/d", LONG[:30]), ("copy", "tree", "e", "tree", "a"),
                     ("stem", "bare", "zed"))[1]


class TakenTest(unittest.TestCase):
    def setUp(self):
        self.source = source_house()
        self.account = account_of(self.source)
        self.boards, self.house = new_house(2, ("keeper", "ann", MOST), ("keeper", "bob", MOST), ("stem", "main", "ann"),
                                            ("write", "main", "f", "content"), ("seal", "main", "s"))

    def taken(self, name, keeper, account, source, tree):
        ahead, others = self.house.head(), told_by(self.house)[1]
        self.assertIsNone(take_in(self.house, name, keeper, account, source))
        head = self.house.head()
        self.assertTrue(is_head(head))
        self.assertEqual(head[:2], (ahead[0] + 1, ahead[1]))
        named = [named for named in head[2] if named[0] == name]
        self.assertEqual(named[0][:4], (name, 1, keeper, ""))
        self.assertEqual([named for named in head[2] if named[0] != name], list(ahead[2]))
        self.assertEqual(told_by(self.house)[1], others | {name: tree})
        reached = reached_by(self.boards, head)
        pool = self.house.pool()
        self.assertEqual([(pool.tag(number), pool.count(number)) for number in pool.numbers()],
                         sorted((tag, count) for tag, (block, count) in reached.items()))
        self.assertTrue(lets_by(account_of(self.house)))

    def test_a_stem_and_a_seal_of_another_house(self):
        for source in ("tree", "old", "bare"):
            self.taken(source, "bob", self.account, source, tree_of(self.source, source))

    def test_of_its_own_account(self):
        self.house.folder("main", "g")
        account = account_of(self.house)
        ahead = self.house.pool().numbers()
        self.taken("again", "bob", account, "main", tree_of(self.house, "main"))
        self.assertEqual(self.house.tag_at("again", ""), self.house.tag_at("main", ""))
        self.assertEqual(self.house.pool().numbers(), ahead)
        self.taken("old", "ann", account, "s", {"f": "content"})

    def test_of_an_elder_account_of_its_own(self):
        account = account_of(self.house)
        self.house.write("main", "f", "other")
        self.house.drop("s")
        self.taken("s", "ann", account, "s", {"f": "content"})

    def test_the_account_is_all_that_is_asked(self):
        account, tree = self.account, tree_of(self.source, "tree")
        self.source.drop("tree")
        self.taken("tree", "ann", account, "tree", tree)

    def test_tags_of_the_same_contents_written_by_hand(self):
        take_in(self.house, "tree", "bob", self.account, "tree")
        self.house.write("main", "x", LONG)
        self.house.write("main", "y", LONG[:30])
        self.assertEqual(self.house.tag_at("main", "x"), self.house.tag_at("tree", "a/b/c"))
        self.assertEqual(self.house.tag_at("main", "y"), self.house.tag_at("tree", "a/d"))

    def test_tags_of_contents_that_were_written_ahead(self):
        self.house.write("main", "x", LONG)
        tag = self.house.tag_at("main", "x")
        take_in(self.house, "tree", "bob", self.account, "tree")
        self.assertEqual(self.house.tag_at("tree", "a/b/c"), tag)

    def test_contents_cut_otherwise_are_cut_as_written(self):
        last = piece("d")
        account = made([stem(folder(("a", 1, file("ab", "cd")), ("b", 1, row(1, piece("abc"), last)),
                                    ("c", 1, row(3, row(2, row(1, piece("a"), piece("bc")), row(1, last)))),
                                    ("e", 1, row(2, row(1)))))])
        self.assertTrue(lets_by(account))
        self.taken("new", "bob", account, "main", {"a": "abcd", "b": "abcd", "c": "abcd", "e": ""})
        self.house.write("main", "x", "abcd")
        self.house.write("main", "y", "")
        for path in "abc":
            self.assertEqual(self.house.tag_at("new", path), self.house.tag_at("main", "x"))
        self.assertEqual(self.house.tag_at("new", "e"), self.house.tag_at("main", "y"))

    def test_births(self):
        take_in(self.house, "tree", "bob", self.account, "tree")
        self.assertEqual(self.house.tag_at("tree", "a/b/c")[1], self.house.age())

    def test_the_widest_and_the_deepest_tree(self):
        boards, big = new_house(2, ("keeper", "ann", MOST), ("stem", "wide", "ann"), ("stem", "deep", "ann"))
        for name in "abcd":
            big.folder("wide", name)
            for number in range(14):
                big.write("wide", f"{name}/{number}", str(number))
        for many in range(1, 9):
            big.folder("deep", "/".join("abcdefgh"[:many]))
        big.write("deep", "f", "x" * 400)
        for name in ("wide", "deep"):
            self.taken(name, "bob", account_of(big), name, tree_of(big, name))

    def test_the_account_is_not_changed_and_not_kept(self):
        ahead = repr(self.account)
        take_in(self.house, "tree", "bob", self.account, "tree")
        self.house.write("tree", "new", "x")
        self.assertEqual(repr(self.account), ahead)

    def test_it_goes_on(self):
        take_in(self.house, "tree", "bob", self.account, "tree")
        do_all(self.house, (("seal", "tree", "t"), ("grow", "side", "t", "ann"), ("graft", "side"), ("drop", "tree")))
        self.assertEqual(stands(opened(self.boards)), stands(self.house))

    def test_over_bound(self):
        one = account_of(new_house(2, ("keeper", "k", MOST), ("stem", "t", "k"), ("write", "t", "a", "x"))[1])
        self.house.keeper("bob", 43)
        self.refused(("OverBound", {"name": "bob"}), "t", "bob", one, "t")
        self.house.keeper("bob", 44)
        take_in(self.house, "t", "bob", one, "t")
        self.assertEqual(share_in(self.house.pool(), self.house.head(), "bob"), (44, 1))
        self.house.keeper("bob", 0)
        # alike trees take up nothing more
        take_in(self.house, "u", "bob", one, "t")
        self.house.keeper("ann", 0)
        self.refused(("OverBound", {"name": "ann"}), "v", "ann", one, "t")

    def test_over_bound_by_shares_in_common(self):
        boards, house = new_house(2, ("keeper", "ann", MOST), ("keeper", "bob", 21), ("stem", "main", "ann"),
                                  ("write", "main", "a", "x"))
        account = account_of(house)
        self.assertEqual(sum(size_of(cell[2]) for cell in account[3]), 44)
        self.assertEqual(refusal_of(take_in, house, "new", "bob", account, "main"), ("OverBound", {"name": "bob"}))
        house.keeper("bob", 22)
        take_in(house, "new", "bob", account, "main")

    def refused(self, due, *parts):
        ahead = all_of(self.house, self.boards)
        self.assertEqual(refusal_of(take_in, self.house, *parts), due)
        self.assertEqual(all_of(self.house, self.boards), ahead)

    def test_each_refusal_alone(self):
        for name in ("", "A", "a b", "abcdefghi", "a/b"):
            self.refused(("NoName", {"name": name}), name, "ann", self.account, "tree")
        for name in ("main", "s"):
            self.refused(("Twice", {"name": name}), name, "ann", self.account, "tree")
        for keeper in ("zed", "main", "", "Ann"):
            self.refused(("NoName", {"name": keeper}), "new", keeper, self.account, "tree")
        for account in (None, 0, True, "x", [], (), list(self.account), self.account[:4], (True,) + self.account[1:],
                        self.account[:3] + (self.account[3][:-1], self.account[4])):
            self.refused(NO_PAPER, "new", "ann", account, "tree")
        for source in ("x", "main", "", "zed", "A"):
            self.refused(("NoName", {"name": source}), "new", "ann", self.account, source)
        while len(self.house.head()[2]) < 24:
            self.house.seal("main", f"n{len(self.house.head()[2])}")
        self.refused(("TooMany", {}), "new", "ann", self.account, "tree")
        self.house.drop("n5")
        take_in(self.house, "new", "ann", self.account, "tree")
        self.refused(("TooMany", {}), "newer", "ann", self.account, "tree")

    def test_of_several_the_first_told(self):
        self.house.keeper("poor", 0)
        while len(self.house.head()[2]) < 24:
            self.house.seal("main", f"n{len(self.house.head()[2])}")
        parts = (("A", ("NoName", {"name": "A"})), ("main", ("Twice", {"name": "main"})), ("new", None))
        keepers = (("zed", ("NoName", {"name": "zed"})), ("poor", None))
        accounts = ((None, NO_PAPER), (self.account, None))
        sources = (("x", ("NoName", {"name": "x"})), ("tree", None))
        for name, no_name in parts:
            for keeper, no_keeper in keepers:
                for account, no_paper in accounts:
                    for source, no_source in sources:
                        due = no_name or no_keeper or no_paper or no_source or ("TooMany", {})
                        self.refused(due, name, keeper, account, source)
        self.house.drop("n9")
        self.refused(("OverBound", {"name": "poor"}), "new", "poor", self.account, "tree")
        self.refused(("NoName", {"name": "x"}), "new", "poor", self.account, "x")
        self.refused(NO_PAPER, "new", "poor", None, "tree")
        self.refused(("Twice", {"name": "s"}), "s", "poor", self.account, "tree")


class StoppedTest(unittest.TestCase):
    def test_behind_each_number_of_writes(self):
        account = account_of(source_house())
        for many in (2, 3, 4):
            boards, house = new_house(many, *STORY)
            ahead = told_by(house)
            whole = boards.again()
            other = opened(whole)
            written = whole.written()
            take_in(other, "tree", "bob", account, "tree")
            behind, total = told_by(other), whole.written() - written
            for writes in range(total):
                cut = boards.again()
                other = opened(cut)
                cut.stop(writes)
                self.assertEqual(refusal_of(take_in, other, "tree", "bob", account, "tree"), ("Stopped", {}))
                cut.stop(None)
                again = opened(cut)
                self.assertEqual(told_by(again), behind if writes > total - many else ahead)


class ManyTest(unittest.TestCase):
    def test_all_of_a_house_taken_in_by_a_new_one(self):
        boards, house = new_house(3)
        for deed, plain in by_chance(5, 250):
            do(house, *deed)
        account = account_of(house)
        self.assertGreater(len(account[2]), 3)
        other = House(Boards(2))
        other.keeper("k", MOST)
        for named in account[2]:
            take_in(other, named[0], "k", account, named[0])
        self.assertEqual(told_by(other)[1], plain.trees())
        # blocks are as many as they were: contents are cut alike, wherever they lie
        self.assertEqual(len(other.pool().numbers()), len(account[3]))
        self.assertTrue(lets_by(account_of(other)))


if __name__ == "__main__":
    unittest.main()
