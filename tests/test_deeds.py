"""Each deed of a house by itself: what it does, what refuses it, and in which order; a plain house does the same."""

import unittest

from helper import MOST, all_of, do, new_house, pool_state, refusal_of, spoil_copies, tree_of, trees_of
from stemshelf.errors import Bare, Grown, Lost, NoName, NoPath, OverBound, StemError, TooMany, Twice
from stemshelf.heads import head_of, is_head
from stemshelf.opening import opened
from stemshelf.plain import PlainHouse
from stemshelf.shares import share_in
from stemshelf.trees import all_in

DEEP = "/".join("abcdefgh")
NO_NAMES = ("", "A", "a b", "abcdefghi", "a/b", ".")
NO_PATHS = ("/", "/a", "a/", "a//b", "A", "abcdefghi", DEEP + "/i", " ", ".")


class DeedTest(unittest.TestCase):
    """A house on three boards, looked at behind each deed and each refusal, and a plain one that is told the same."""

    def setUp(self):
        self.boards, self.house = new_house(3)
        self.plain = PlainHouse()

    @property
    def head(self):
        return self.house.head()

    @property
    def pool(self):
        return self.house.pool()

    def do(self, word, *parts):
        ahead = self.head
        self.assertIsNone(do(self.house, word, *parts))
        self.assertTrue(is_head(self.head), self.head)
        self.assertEqual(self.house.age(), ahead[0] + 1)
        self.assertEqual(self.head[0], ahead[0] + 1)
        self.assertEqual(head_of(self.boards), self.head)
        if self.plain is not None:
            self.assertIsNone(do(self.plain, word, *parts))
            self.same_in_plain()

    def same_in_plain(self):
        for name in self.names():
            self.assertEqual(self.plain.paths(name), self.house.paths(name))
            self.assertEqual(tree_of(self.plain, name), self.tree(name))

    def refused(self, error, *deed):
        """The error is a class, or one with its field."""
        ahead = all_of(self.house, self.boards)
        with self.subTest(deed):
            with self.assertRaises(StemError) as caught:
                do(self.house, *deed)
            if isinstance(error, type):
                self.assertIs(caught.exception.__class__, error)
            else:
                self.assertIs(caught.exception.__class__, error.__class__)
                self.assertEqual(vars(caught.exception), vars(error))
            self.assertEqual(all_of(self.house, self.boards), ahead)
            if self.plain is not None and not isinstance(caught.exception, OverBound):
                self.assertEqual(refusal_of(do, self.plain, *deed),
                                 (caught.exception.__class__.__name__, vars(caught.exception)))
                self.same_in_plain()

    def named(self, name):
        return [named for named in self.head[2] if named[0] == name][0]

    def names(self):
        return [named[0] for named in self.head[2]]

    def tree(self, name):
        return tree_of(self.house, name)

    def trees(self):
        return trees_of(self.house)

    def share(self, keeper):
        return share_in(self.pool, self.head, keeper)

    def set_up(self, *names):
        """Keepers ann and bob without a bound to speak of, and ann's stems of these names."""
        for keeper in ("ann", "bob"):
            self.do("keeper", keeper, MOST)
        for name in names:
            self.do("stem", name, "ann")

    def fill_names(self):
        """Seals up to 24 names."""
        stem = [named for named in self.head[2] if named[1] == 1][0][0]
        while len(self.head[2]) < 24:
            self.do("seal", stem, f"fill{len(self.head[2])}")

    def fill_root(self, stem):
        """Files n1 and on in a stem's root, up to sixteen entries."""
        number = 0
        while sum(1 for path in self.tree(stem) if "/" not in path) < 16:
            number += 1
            self.do("write", stem, f"n{number}", "")

    def fill_tree(self, stem):
        """Four folders of fourteen files each: sixty entries."""
        for folder in "abcd":
            self.do("folder", stem, folder)
            for number in range(14):
                self.do("write", stem, f"{folder}/{number}", "")
        self.assertEqual(len(self.tree(stem)), 60)

    def make_deep(self, stem):
        """Folders a, a/b and so on, eight steps."""
        for many in range(1, 9):
            self.do("folder", stem, "/".join("abcdefgh"[:many]))

    def make_poor(self, *keepers):
        """Each further share of these is above their bound."""
        for keeper in keepers:
            self.do("keeper", keeper, 0)


class KeeperTest(DeedTest):
    def test_new_ones_and_other_bounds(self):
        self.do("keeper", "bob", 5)
        self.assertEqual(self.head, (1, (("bob", 5),), ()))
        self.do("keeper", "ann", 0)
        self.do("keeper", "cid", MOST)
        self.assertEqual(self.head, (3, (("ann", 0), ("bob", 5), ("cid", MOST)), ()))
        self.do("keeper", "bob", 6)
        self.assertEqual(self.head, (4, (("ann", 0), ("bob", 6), ("cid", MOST)), ()))

    def test_names_of_stems_and_seals_are_free_for_keepers(self):
        self.set_up("main")
        self.do("seal", "main", "s")
        self.do("keeper", "main", 5)
        self.do("keeper", "s", 5)
        self.assertEqual([keeper[0] for keeper in self.head[1]], ["ann", "bob", "main", "s"])

    def test_a_bound_below_the_share(self):
        self.set_up("main")
        self.do("write", "main", "a", "content")
        self.do("keeper", "ann", 1)
        self.assertEqual(self.head[1][0], ("ann", 1))

    def test_what_is_no_name(self):
        for name in NO_NAMES:
            self.refused(NoName(name), "keeper", name, 5)

    def test_a_ninth(self):
        for number in range(8):
            self.do("keeper", f"k{number}", 5)
        self.refused(TooMany, "keeper", "k8", 5)
        self.refused(NoName("A"), "keeper", "A", 5)
        self.do("keeper", "k7", 6)
        self.assertEqual(self.head[1][7], ("k7", 6))


class StemTest(DeedTest):
    def test_an_empty_root(self):
        self.set_up("main")
        self.assertEqual(self.named("main")[:4], ("main", 1, "ann", ""))
        self.assertEqual(self.pool.block(self.named("main")[4]), (2, ()))
        self.assertEqual(self.named("main")[4][1], 3)
        self.do("stem", "ann", "bob")
        self.assertEqual(self.names(), ["ann", "main"])
        self.assertEqual(self.named("ann")[4], self.named("main")[4])

    def test_refusals(self):
        self.set_up("main")
        self.do("seal", "main", "s")
        for name in NO_NAMES:
            self.refused(NoName(name), "stem", name, "ann")
        for name in ("main", "s"):
            self.refused(Twice(name), "stem", name, "ann")
        for keeper in ("cid", "main", "s", "", "Ann"):
            self.refused(NoName(keeper), "stem", "new", keeper)

    def test_24_and_25_names(self):
        self.set_up("main")
        self.fill_names()
        self.refused(TooMany, "stem", "new", "ann")
        self.do("drop", "fill1")
        self.do("stem", "new", "ann")

    def test_over_its_bound(self):
        self.do("keeper", "ann", 5)
        self.refused(OverBound("ann"), "stem", "main", "ann")
        self.do("keeper", "ann", 6)
        self.do("stem", "main", "ann")
        self.do("stem", "more", "ann")

    def test_of_several_refusals_the_first_told(self):
        self.set_up("main")
        self.refused(NoName("A"), "stem", "A", "cid")
        self.refused(Twice("main"), "stem", "main", "cid")
        self.do("write", "main", "a", "x")
        self.do("keeper", "poor", 0)
        self.refused(Twice("main"), "stem", "main", "poor")
        self.refused(NoName("cid"), "stem", "new", "cid")
        self.refused(OverBound("poor"), "stem", "new", "poor")
        self.fill_names()
        self.refused(NoName("A"), "stem", "A", "cid")
        self.refused(NoName("A"), "stem", "A", "poor")
        self.refused(Twice("main"), "stem", "main", "cid")
        self.refused(Twice("main"), "stem", "main", "ann")
        self.refused(NoName("cid"), "stem", "new", "cid")
        self.refused(TooMany, "stem", "new", "poor")


class FolderTest(DeedTest):
    def test_empty_folders(self):
        self.set_up("main", "other")
        for path in ("a", "b", "a/c", "a/c/d"):
            self.do("folder", "main", path)
        self.assertEqual(self.tree("main"), {"a": None, "a/c": None, "a/c/d": None, "b": None})
        self.assertEqual(self.tree("other"), {})

    def test_eight_steps(self):
        self.set_up("main")
        self.make_deep("main")
        self.assertEqual(len(self.tree("main")), 8)
        self.refused(NoPath(DEEP + "/i"), "folder", "main", DEEP + "/i")

    def test_refusals(self):
        self.set_up("main")
        self.do("seal", "main", "s")
        self.do("write", "main", "f", "")
        self.do("folder", "main", "a")
        for stem in ("s", "x", "ann", "", "Main"):
            self.refused(NoName(stem), "folder", stem, "b")
        for path in NO_PATHS + ("", "b/c", "f/c", "a/b/c", "f/b/c"):
            self.refused(NoPath(path), "folder", "main", path)
        for path in ("f", "a"):
            self.refused(Twice(path), "folder", "main", path)

    def test_a_seventeenth_entry(self):
        self.set_up("main")
        self.do("folder", "main", "z")
        self.fill_root("main")
        self.refused(TooMany, "folder", "main", "new")
        self.do("folder", "main", "z/new")

    def test_a_sixty_first_entry(self):
        self.set_up("main")
        self.fill_tree("main")
        for path in ("e", "a/new"):
            self.refused(TooMany, "folder", "main", path)
        self.do("remove", "main", "a/0")
        self.do("folder", "main", "e")

    def test_over_its_bound(self):
        self.set_up("main")
        # the root with one entry, 21, and the empty folder in it, 6
        self.do("keeper", "ann", 26)
        self.refused(OverBound("ann"), "folder", "main", "a")
        self.do("keeper", "ann", 27)
        self.do("folder", "main", "a")

    def test_of_several_refusals_the_first_told(self):
        self.set_up("main")
        self.do("write", "main", "f", "")
        self.fill_root("main")
        self.make_poor("ann")
        self.refused(NoName("x"), "folder", "x", "A")
        for path in ("", "A", "f/b", "new/b"):
            self.refused(NoPath(path), "folder", "main", path)
        self.refused(Twice("f"), "folder", "main", "f")
        self.refused(TooMany, "folder", "main", "new")


class WriteTest(DeedTest):
    def test_new_files_and_other_contents(self):
        self.set_up("main", "other")
        self.do("write", "main", "a", "one")
        self.do("folder", "main", "b")
        self.do("write", "main", "b/c", "two")
        self.assertEqual(self.tree("main"), {"a": "one", "b": None, "b/c": "two"})
        self.do("write", "main", "a", "")
        self.do("write", "main", "b/c", "x" * 400)
        self.assertEqual(self.tree("main"), {"a": "", "b": None, "b/c": "x" * 400})
        self.assertEqual(self.tree("other"), {})

    def test_births_are_the_age_that_is_come_to(self):
        self.set_up("main")
        self.do("write", "main", "a", "some content")
        births = [self.pool.tag(number)[1] for number in self.pool.numbers()]
        self.assertEqual(set(births), {self.head[0]})

    def test_the_same_content_again(self):
        self.set_up("main")
        self.do("write", "main", "a", "content")
        ahead = pool_state(self.pool)
        self.do("write", "main", "a", "content")
        self.assertEqual(pool_state(self.pool), ahead)

    def test_refusals(self):
        self.set_up("main")
        self.do("seal", "main", "s")
        self.do("folder", "main", "a")
        self.do("write", "main", "f", "")
        for stem in ("s", "x", "ann", ""):
            self.refused(NoName(stem), "write", stem, "b", "content")
        for path in NO_PATHS + ("", "a", "b/c", "f/c", "a/b/c"):
            self.refused(NoPath(path), "write", "main", path, "content")
        self.refused(TooMany, "write", "main", "b", "x" * 401)
        self.refused(TooMany, "write", "main", "f", "x" * 401)

    def test_too_many_entries(self):
        self.set_up("main", "other")
        self.fill_root("main")
        self.refused(TooMany, "write", "main", "new", "content")
        self.do("write", "main", "n1", "content")
        self.fill_tree("other")
        self.refused(TooMany, "write", "other", "e", "content")
        self.refused(TooMany, "write", "other", "a/new", "content")
        self.do("write", "other", "a/0", "content")

    def test_over_its_bound(self):
        self.set_up("main")
        # the root 21, the row 16, the piece 7
        self.do("keeper", "ann", 43)
        self.refused(OverBound("ann"), "write", "main", "a", "x")
        self.do("keeper", "ann", 44)
        self.do("write", "main", "a", "x")

    def test_of_several_refusals_the_first_told(self):
        self.set_up("main")
        self.do("folder", "main", "a")
        self.fill_root("main")
        self.make_poor("ann")
        self.refused(NoName("x"), "write", "x", "A", "x" * 401)
        for path in ("", "A", "a", "new/b"):
            self.refused(NoPath(path), "write", "main", path, "x" * 401)
            self.refused(NoPath(path), "write", "main", path, "x")
        self.refused(TooMany, "write", "main", "new", "x" * 401)
        self.refused(TooMany, "write", "main", "new", "x")
        self.refused(TooMany, "write", "main", "n1", "x" * 401)
        self.refused(OverBound("ann"), "write", "main", "n1", "x" * 400)


class SpliceTest(DeedTest):
    def test_places_and_lengths(self):
        self.set_up("main")
        for at, many, text, due in ((0, 0, "", "content"), (0, 0, "x", "xcontent"), (3, 0, "x", "conxtent"),
                                    (3, 2, "x", "conxnt"), (0, 7, "", ""), (0, 99, "x", "x"), (7, 0, "x", "contentx"),
                                    (8, 0, "x", "contentx"), (99, 99, "x", "contentx"), (6, 1, "", "conten"),
                                    (6, 2, "x", "contenx"), (2, 3, "", "cont"), (0, 1, "xyz", "xyzontent")):
            self.do("write", "main", "a", "content")
            self.do("splice", "main", "a", at, many, text)
            self.assertEqual(self.tree("main"), {"a": due}, (at, many, text))

    def test_alike_with_what_is_written(self):
        self.set_up("main")
        self.do("write", "main", "a", "some content that is long")
        self.do("splice", "main", "a", 5, 0, "more ")
        self.do("write", "main", "b", "some more content that is long")
        tags = [tag for path, kind, tag in all_in(self.pool, self.named("main")[4]) if path != ""]
        self.assertEqual(tags[0], tags[1])

    def test_400_signs_and_more_as_they_would_stand_behind_it(self):
        self.set_up("main")
        self.do("write", "main", "a", "x" * 399)
        self.do("splice", "main", "a", 100, 0, "y")
        self.refused(TooMany, "splice", "main", "a", 0, 0, "y")
        self.refused(TooMany, "splice", "main", "a", 0, 3, "yyyy")
        self.refused(TooMany, "splice", "main", "a", 400, 9, "y")
        self.do("splice", "main", "a", 0, 4, "yyyy")
        self.do("splice", "main", "a", 0, 400, "z" * 400)
        self.assertEqual(self.tree("main"), {"a": "z" * 400})

    def test_refusals(self):
        self.set_up("main")
        self.do("seal", "main", "s")
        self.do("folder", "main", "a")
        self.do("write", "main", "f", "content")
        for stem in ("s", "x", "ann", ""):
            self.refused(NoName(stem), "splice", stem, "f", 0, 0, "x")
        for path in NO_PATHS + ("", "a", "b", "a/b", "f/c", "b/c"):
            self.refused(NoPath(path), "splice", "main", path, 0, 0, "x")

    def test_over_its_bound(self):
        self.set_up("main")
        self.do("write", "main", "a", "x")
        self.do("keeper", "ann", 44)
        self.refused(OverBound("ann"), "splice", "main", "a", 1, 0, "y")
        self.do("splice", "main", "a", 0, 1, "y")
        self.do("keeper", "ann", 45)
        self.do("splice", "main", "a", 1, 0, "y")

    def test_of_several_refusals_the_first_told(self):
        self.set_up("main")
        self.do("write", "main", "f", "x" * 400)
        self.make_poor("ann")
        self.refused(NoName("x"), "splice", "x", "A", 0, 0, "x" * 401)
        self.refused(NoPath("A"), "splice", "main", "A", 0, 0, "x" * 401)
        self.refused(NoPath("b"), "splice", "main", "b", 0, 0, "x" * 401)
        self.refused(TooMany, "splice", "main", "f", 0, 0, "y")
        self.refused(OverBound("ann"), "splice", "main", "f", 0, 1, "y")


class RemoveTest(DeedTest):
    def test_files_and_folders_with_all_in_them(self):
        self.set_up("main")
        for path in ("a", "a/b"):
            self.do("folder", "main", path)
        for path in ("a/b/c", "a/d", "ab", "e"):
            self.do("write", "main", path, path)
        self.do("remove", "main", "a/d")
        self.assertEqual(self.tree("main"), {"a": None, "a/b": None, "a/b/c": "a/b/c", "ab": "ab", "e": "e"})
        self.do("remove", "main", "a")
        self.assertEqual(self.tree("main"), {"ab": "ab", "e": "e"})
        self.do("remove", "main", "e")
        self.do("remove", "main", "ab")
        self.assertEqual(self.tree("main"), {})
        self.assertEqual(len(self.pool.numbers()), 1)

    def test_refusals(self):
        self.set_up("main")
        self.do("seal", "main", "s")
        self.do("write", "main", "f", "")
        for stem in ("s", "x", "ann", ""):
            self.refused(NoName(stem), "remove", stem, "f")
        for path in NO_PATHS + ("", "b", "b/c", "f/c"):
            self.refused(NoPath(path), "remove", "main", path)

    def test_over_its_bound(self):
        self.set_up("main")
        for number in range(9):
            self.do("write", "main", f"n{number}", "")
        self.do("seal", "main", "s")
        # the seal's root stays, the stem's own is put anew beside it: 6 and 16 for each of eight entries
        share = self.share("ann")[0]
        self.do("keeper", "ann", share + 6 + 8 * 16 - 1)
        self.refused(OverBound("ann"), "remove", "main", "n8")
        self.do("keeper", "ann", share + 6 + 8 * 16)
        self.do("remove", "main", "n8")
        self.assertEqual(len(self.tree("s")), 9)

    def test_above_its_bound_but_not_above_what_it_was(self):
        self.set_up("main")
        self.do("write", "main", "a", "content")
        self.do("write", "main", "b", "another")
        self.make_poor("ann")
        self.do("remove", "main", "b")
        self.do("remove", "main", "a")

    def test_of_several_refusals_the_first_told(self):
        self.set_up("main")
        self.do("write", "main", "f", "")
        self.do("write", "main", "g", "")
        self.do("seal", "main", "s")
        self.make_poor("ann")
        self.refused(NoName("x"), "remove", "x", "A")
        self.refused(NoPath("b"), "remove", "main", "b")
        self.refused(OverBound("ann"), "remove", "main", "f")


class MoveTest(DeedTest):
    def test_files_and_folders(self):
        self.set_up("main")
        for path in ("a", "a/b", "c"):
            self.do("folder", "main", path)
        for path in ("a/b/d", "e"):
            self.do("write", "main", path, path)
        self.do("move", "main", "e", "c/f")
        self.assertEqual(self.tree("main"), {"a": None, "a/b": None, "a/b/d": "a/b/d", "c": None, "c/f": "e"})
        self.do("move", "main", "a/b", "c/g")
        self.assertEqual(self.tree("main"), {"a": None, "c": None, "c/f": "e", "c/g": None, "c/g/d": "a/b/d"})
        self.do("move", "main", "c", "a/c")
        self.assertEqual(self.tree("main"), {"a": None, "a/c": None, "a/c/f": "e", "a/c/g": None, "a/c/g/d": "a/b/d"})
        self.do("move", "main", "a/c/g/d", "d")
        self.do("move", "main", "d", "ddd")
        self.assertEqual(self.tree("main"), {"a": None, "a/c": None, "a/c/f": "e", "a/c/g": None, "ddd": "a/b/d"})

    def test_refusals(self):
        self.set_up("main")
        self.do("seal", "main", "s")
        for path in ("a", "a/b"):
            self.do("folder", "main", path)
        self.do("write", "main", "f", "")
        for stem in ("s", "x", "ann", ""):
            self.refused(NoName(stem), "move", stem, "f", "g")
        for path in NO_PATHS + ("", "x", "x/y", "f/x"):
            self.refused(NoPath(path), "move", "main", path, "g")
        for to in NO_PATHS + ("", "x/y", "f/y", "f", "a/x/y"):
            self.refused(NoPath(to), "move", "main", "f", to)
        for to in ("a", "a/x", "a/b", "a/b/x", "a/x/y"):
            self.refused(NoPath(to), "move", "main", "a", to)
        for path, to in (("f", "a"), ("f", "a/b"), ("a", "f"), ("a/b", "a"), ("a/b", "f")):
            self.refused(Twice(to), "move", "main", path, to)
        self.do("move", "main", "a", "ab")

    def test_a_folder_of_sixteen_as_it_would_stand_behind_the_deed(self):
        self.set_up("main")
        for path in ("a", "a/b"):
            self.do("folder", "main", path)
        self.do("write", "main", "a/b/c", "")
        self.fill_root("main")
        self.refused(TooMany, "move", "main", "a/b", "new")
        self.refused(TooMany, "move", "main", "a/b/c", "new")
        self.do("move", "main", "n1", "new")
        self.do("move", "main", "new", "a/b/n1")
        self.do("move", "main", "a/b/c", "back")
        self.assertEqual(len([path for path in self.tree("main") if "/" not in path]), 16)

    def test_sixty_entries_may_be_moved(self):
        self.set_up("main")
        self.fill_tree("main")
        self.do("move", "main", "a", "b/a")
        self.do("move", "main", "b/a/0", "e")
        self.assertEqual(len(self.tree("main")), 60)

    def test_eight_and_nine_deep(self):
        self.set_up("main")
        self.make_deep("main")
        self.do("folder", "main", "x")
        self.do("folder", "main", "x/y")
        self.do("move", "main", "x", "a/b/c/d/e/f/x")
        self.do("move", "main", "a/b/c/d/e/f/x", "x")
        self.refused(TooMany, "move", "main", "x", "a/b/c/d/e/f/g/x")
        self.refused(TooMany, "move", "main", "a", "x/a")
        self.refused(TooMany, "move", "main", "a", "x/y/a")
        self.do("move", "main", "a/b", "x/b")
        self.assertEqual(max(path.count("/") for path in self.tree("main")), 7)

    def test_over_its_bound(self):
        self.set_up("main")
        self.do("folder", "main", "a")
        self.do("write", "main", "f", "")
        share = self.share("ann")[0]
        # a isn't empty any more: the root 15 less, a 15 more; moved to a name of one sign more, 1 more
        self.do("keeper", "ann", share)
        self.do("move", "main", "f", "a/f")
        self.refused(OverBound("ann"), "move", "main", "a/f", "a/ff")
        self.do("keeper", "ann", share + 1)
        self.do("move", "main", "a/f", "a/ff")

    def test_of_several_refusals_the_first_told(self):
        self.set_up("main")
        self.make_deep("main")
        self.do("folder", "main", "x")
        self.do("folder", "main", "x/y")
        self.fill_root("main")
        self.do("seal", "main", "s")
        self.make_poor("ann")
        self.refused(NoName("q"), "move", "q", "A", "B")
        self.refused(NoPath("A"), "move", "main", "A", "B")
        self.refused(NoPath("q"), "move", "main", "q", "")
        self.refused(NoPath("q"), "move", "main", "q", "q")
        self.refused(NoPath("q"), "move", "main", "q", "a")
        self.refused(NoPath(""), "move", "main", "", "")
        self.refused(NoPath("x"), "move", "main", "x", "x")
        self.refused(NoPath("x/y"), "move", "main", "x", "x/y")
        self.refused(NoPath("q/z"), "move", "main", "x/y", "q/z")
        self.refused(Twice("n1"), "move", "main", "x/y", "n1")
        self.refused(Twice("a/b"), "move", "main", "a/b/c", "a/b")
        self.refused(TooMany, "move", "main", "x/y", "new")
        self.refused(OverBound("ann"), "move", "main", "n1", "new")


class CopyTest(DeedTest):
    def world(self):
        self.set_up("main", "other")
        self.do("folder", "main", "a")
        self.do("write", "main", "a/b", "one")
        self.do("write", "main", "f", "two")
        self.do("seal", "main", "s")
        self.do("write", "main", "a/b", "three")

    def test_files_folders_and_roots_of_stems_and_seals(self):
        self.world()
        self.do("copy", "other", "f", "main", "f")
        self.do("copy", "other", "a", "main", "a")
        self.do("copy", "other", "a/old", "s", "a/b")
        self.assertEqual(self.tree("other"), {"a": None, "a/b": "three", "a/old": "one", "f": "two"})
        self.do("copy", "other", "all", "s", "")
        self.assertEqual(self.tree("other"), {"a": None, "a/b": "three", "a/old": "one", "f": "two", "all": None,
                                              "all/a": None, "all/a/b": "one", "all/f": "two"})
        self.assertEqual(self.tree("main"), {"a": None, "a/b": "three", "f": "two"})
        self.assertEqual(self.tree("s"), {"a": None, "a/b": "one", "f": "two"})

    def test_within_itself_as_it_was_ahead(self):
        self.world()
        self.do("copy", "main", "a/a", "main", "a")
        self.assertEqual(self.tree("main"), {"a": None, "a/a": None, "a/a/b": "three", "a/b": "three", "f": "two"})
        self.do("copy", "main", "all", "main", "")
        self.assertEqual(self.tree("main"), {
            "a": None, "a/a": None, "a/a/b": "three", "a/b": "three", "f": "two", "all": None, "all/a": None,
            "all/a/a": None, "all/a/a/b": "three", "all/a/b": "three", "all/f": "two"})

    def test_nothing_new_is_laid_but_folders_above(self):
        self.world()
        taken = len(self.pool.numbers())
        self.do("copy", "other", "a", "main", "a")
        # other's root was the empty folder, which nothing else needs
        self.assertEqual(len(self.pool.numbers()), taken)

    def test_refusals(self):
        self.world()
        for stem in ("s", "x", "ann", ""):
            self.refused(NoName(stem), "copy", stem, "new", "main", "f")
        for name in ("x", "ann", "", "Main"):
            self.refused(NoName(name), "copy", "other", "new", name, "f")
        for path in NO_PATHS + ("x", "x/y", "f/x"):
            self.refused(NoPath(path), "copy", "other", "new", "main", path)
        for to in NO_PATHS + ("", "x/y", "f/x", "a/x/y"):
            self.refused(NoPath(to), "copy", "main", to, "s", "f")
        for to in ("f", "a", "a/b"):
            self.refused(Twice(to), "copy", "main", to, "s", "f")

    def test_too_many(self):
        self.world()
        self.fill_root("other")
        self.refused(TooMany, "copy", "other", "new", "main", "f")
        self.do("stem", "big", "ann")
        self.fill_tree("big")
        for to, path in (("e", "f"), ("e", ""), ("a/x", "f")):
            self.refused(TooMany, "copy", "big", to, "main", path)
        self.refused(TooMany, "copy", "main", "big", "big", "")
        self.do("remove", "big", "a")
        self.do("copy", "big", "e", "main", "")
        self.do("copy", "big", "g", "main", "")
        self.assertEqual(len(self.tree("big")), 53)

    def test_sixty_entries_but_not_more(self):
        self.set_up("main", "six")
        self.fill_tree("main")
        self.do("copy", "six", "x", "main", "a")
        self.do("remove", "main", "a/0")
        self.do("remove", "main", "a/1")
        self.do("remove", "main", "b")
        self.assertEqual(len(self.tree("main")), 43)
        # the folder that is copied and its fourteen files make 58
        self.do("copy", "main", "e", "six", "x")
        self.refused(TooMany, "copy", "main", "g", "six", "x")
        self.do("copy", "main", "g", "six", "x/0")
        self.do("copy", "main", "h", "six", "x/0")
        self.assertEqual(len(self.tree("main")), 60)
        self.refused(TooMany, "copy", "main", "i", "six", "x/0")

    def test_eight_and_nine_deep(self):
        self.set_up("main", "deep")
        self.make_deep("deep")
        self.do("folder", "main", "x")
        self.refused(TooMany, "copy", "main", "y", "deep", "")
        self.do("copy", "main", "y", "deep", "a")
        self.refused(TooMany, "copy", "main", "x/y", "deep", "a")
        self.do("copy", "main", "x/y", "deep", "a/b")
        self.refused(TooMany, "copy", "deep", DEEP[:-1] + "x", "main", "x")
        self.do("copy", "deep", DEEP[:-1] + "x", "main", "x/y/c/d/e/f/g/h")

    def test_over_its_bound(self):
        self.set_up("main")
        self.do("stem", "other", "bob")
        self.do("write", "main", "a", "x")
        # the root of its own, then half of the row and the piece
        self.do("keeper", "bob", 22 + 11)
        self.refused(OverBound("bob"), "copy", "other", "bb", "main", "a")
        self.do("keeper", "bob", 22 + 12)
        self.do("copy", "other", "bb", "main", "a")
        self.assertEqual(self.share("bob"), (67, 2))

    def test_of_several_refusals_the_first_told(self):
        self.world()
        self.fill_root("other")
        self.make_poor("ann")
        self.refused(NoName("x"), "copy", "x", "A", "y", "B")
        self.refused(NoName("y"), "copy", "other", "A", "y", "B")
        self.refused(NoPath("B"), "copy", "other", "A", "main", "B")
        self.refused(NoPath("q"), "copy", "other", "", "main", "q")
        self.refused(NoPath("q"), "copy", "other", "n1", "main", "q")
        self.refused(NoPath(""), "copy", "other", "", "main", "f")
        self.refused(NoPath("q/z"), "copy", "other", "q/z", "main", "f")
        self.refused(Twice("n1"), "copy", "other", "n1", "main", "f")
        self.refused(TooMany, "copy", "other", "new", "main", "f")
        self.refused(OverBound("ann"), "copy", "main", "new", "main", "f")


class SealTest(DeedTest):
    def test_the_stems_tree_and_the_age_that_is_come_to(self):
        self.set_up("main")
        self.do("write", "main", "a", "one")
        tag = self.named("main")[4]
        self.do("seal", "main", "s")
        self.assertEqual(self.named("s"), ("s", 2, "main", self.head[0], tag))
        self.do("write", "main", "a", "two")
        self.do("seal", "main", "ann")
        self.assertEqual(self.named("ann")[3], self.head[0])
        self.assertEqual((self.tree("s"), self.tree("ann"), self.tree("main")), ({"a": "one"}, {"a": "two"}, {"a": "two"}))

    def test_refusals(self):
        self.set_up("main")
        self.do("seal", "main", "s")
        for stem in ("s", "x", "ann", ""):
            self.refused(NoName(stem), "seal", stem, "new")
        for name in NO_NAMES:
            self.refused(NoName(name), "seal", "main", name)
        for name in ("main", "s"):
            self.refused(Twice(name), "seal", "main", name)
        self.fill_names()
        self.refused(TooMany, "seal", "main", "new")

    def test_it_needs_no_bound(self):
        self.set_up("main")
        self.do("write", "main", "a", "content")
        self.make_poor("ann")
        self.do("seal", "main", "s")

    def test_of_several_refusals_the_first_told(self):
        self.set_up("main")
        self.fill_names()
        self.refused(NoName("x"), "seal", "x", "A")
        self.refused(NoName("x"), "seal", "x", "main")
        self.refused(NoName("A"), "seal", "main", "A")
        self.refused(Twice("main"), "seal", "main", "main")


class GrowTest(DeedTest):
    def test_the_seals_tree_and_the_seal_its_origin(self):
        self.set_up("main")
        self.do("write", "main", "a", "one")
        self.do("seal", "main", "s")
        self.do("write", "main", "a", "two")
        self.do("grow", "side", "s", "bob")
        self.assertEqual(self.named("side"), ("side", 1, "bob", "s", self.named("s")[4]))
        self.do("write", "side", "b", "three")
        self.assertEqual((self.tree("s"), self.tree("side"), self.tree("main")),
                         ({"a": "one"}, {"a": "one", "b": "three"}, {"a": "two"}))

    def test_refusals(self):
        self.set_up("main")
        self.do("seal", "main", "s")
        for name in NO_NAMES:
            self.refused(NoName(name), "grow", name, "s", "bob")
        for name in ("main", "s"):
            self.refused(Twice(name), "grow", name, "s", "bob")
        for seal in ("main", "x", "ann", ""):
            self.refused(NoName(seal), "grow", "new", seal, "bob")
        for keeper in ("cid", "main", "s", ""):
            self.refused(NoName(keeper), "grow", "new", "s", keeper)
        self.fill_names()
        self.refused(TooMany, "grow", "new", "s", "bob")

    def test_over_its_bound(self):
        self.set_up("main")
        self.do("write", "main", "a", "x")
        self.do("seal", "main", "s")
        # half of 44
        self.do("keeper", "bob", 21)
        self.refused(OverBound("bob"), "grow", "side", "s", "bob")
        self.do("keeper", "bob", 22)
        self.do("grow", "side", "s", "bob")
        self.make_poor("ann")
        self.do("grow", "more", "s", "ann")

    def test_of_several_refusals_the_first_told(self):
        self.set_up("main")
        self.do("seal", "main", "s")
        self.do("keeper", "poor", 0)
        self.fill_names()
        self.refused(NoName("A"), "grow", "A", "x", "y")
        self.refused(Twice("main"), "grow", "main", "x", "y")
        self.refused(NoName("x"), "grow", "new", "x", "y")
        self.refused(NoName("y"), "grow", "new", "s", "y")
        self.refused(TooMany, "grow", "new", "s", "poor")


class BackTest(DeedTest):
    def test_the_latest_seal_by_turns(self):
        self.set_up("main")
        for content, seal in (("one", "z"), ("two", "a"), ("three", "m")):
            self.do("write", "main", "f", content)
            self.do("seal", "main", seal)
        self.do("write", "main", "f", "four")
        self.do("back", "main")
        self.assertEqual(self.tree("main"), {"f": "three"})
        self.do("drop", "m")
        self.do("back", "main")
        self.assertEqual(self.tree("main"), {"f": "two"})
        self.do("back", "main")
        self.assertEqual(self.tree("main"), {"f": "two"})
        self.assertEqual(self.named("main")[:4], ("main", 1, "ann", ""))

    def test_refusals(self):
        self.set_up("main", "other")
        self.do("seal", "main", "s")
        self.do("grow", "side", "s", "bob")
        for stem in ("s", "x", "ann", ""):
            self.refused(NoName(stem), "back", stem)
        for stem in ("other", "side"):
            self.refused(Bare(stem), "back", stem)

    def test_it_needs_no_bound(self):
        self.set_up("main")
        self.do("write", "main", "a", "content")
        self.do("seal", "main", "s")
        self.do("remove", "main", "a")
        self.make_poor("ann")
        self.do("back", "main")
        self.assertEqual(self.tree("main"), {"a": "content"})


class GraftTest(DeedTest):
    def world(self):
        self.set_up("main")
        for content, seal in (("one", "s1"), ("two", "s2"), ("three", "s3")):
            self.do("write", "main", "f", content)
            self.do("seal", "main", seal)
        self.do("grow", "side", "s2", "bob")
        self.do("write", "side", "f", "four")

    def test_what_is_whose(self):
        self.world()
        ahead = self.trees()
        self.do("graft", "side")
        self.assertEqual(self.trees(), ahead)
        self.assertEqual([self.named(seal)[2] for seal in ("s1", "s2", "s3")], ["side", "side", "main"])
        self.assertEqual((self.named("main")[3], self.named("side")[3]), ("s2", ""))
        self.do("back", "side")
        self.assertEqual(self.tree("side"), {"f": "two"})

    def test_refusals(self):
        self.world()
        for stem in ("s1", "x", "bob", ""):
            self.refused(NoName(stem), "graft", stem)
        self.refused(Bare("main"), "graft", "main")

    def test_over_its_bound(self):
        self.world()
        ahead = self.share("bob")
        other = opened(self.boards.again())
        other.graft("side")
        behind = share_in(other.pool(), other.head(), "bob")
        self.assertGreater(behind[0] * ahead[1], ahead[0] * behind[1])
        self.do("keeper", "bob", (behind[0] - 1) // behind[1])
        self.refused(OverBound("bob"), "graft", "side")
        self.do("keeper", "bob", -(-behind[0] // behind[1]))
        self.make_poor("ann")
        self.do("graft", "side")

    def test_a_keepers_own_seals_are_no_more_for_it(self):
        self.set_up("main")
        self.do("write", "main", "f", "content")
        self.do("seal", "main", "s")
        self.do("grow", "side", "s", "ann")
        self.make_poor("ann")
        self.do("graft", "side")

    def test_bare_goes_ahead_of_the_bound(self):
        self.world()
        self.make_poor("ann", "bob")
        self.refused(Bare("main"), "graft", "main")
        self.refused(OverBound("bob"), "graft", "side")


class DropTest(DeedTest):
    def world(self):
        self.set_up("main", "other")
        for content, seal in (("one", "s3"), ("two", "s1"), ("three", "s2")):
            self.do("write", "main", "f", content)
            self.do("seal", "main", seal)
        self.do("seal", "other", "o")

    def test_seals_and_stems_with_all_their_seals(self):
        self.world()
        self.do("drop", "s1")
        self.assertEqual(self.names(), ["main", "o", "other", "s2", "s3"])
        self.do("drop", "main")
        self.assertEqual(self.names(), ["o", "other"])
        self.do("drop", "other")
        self.assertEqual(self.head[1:], (self.head[1], ()))
        self.assertEqual(self.pool.numbers(), [])
        self.assertEqual([keeper[0] for keeper in self.head[1]], ["ann", "bob"])

    def test_refusals(self):
        self.world()
        for name in ("x", "ann", "", "Main"):
            self.refused(NoName(name), "drop", name)
        self.do("grow", "side", "s3", "bob")
        self.refused(Grown("s3"), "drop", "s3")
        self.refused(Grown("s3"), "drop", "main")
        self.do("grow", "top", "s2", "bob")
        self.refused(Grown("s2"), "drop", "main")
        self.refused(Grown("s2"), "drop", "s2")
        self.do("drop", "s1")
        self.do("drop", "side")
        self.do("drop", "s3")
        self.do("drop", "top")
        self.do("drop", "main")
        self.assertEqual(self.names(), ["o", "other"])

    def test_what_grew_elsewhere_is_no_matter(self):
        self.world()
        self.do("grow", "side", "s3", "bob")
        self.do("drop", "other")
        self.do("drop", "side")

    def test_grown_by_one_of_the_same_keeper_too(self):
        self.world()
        self.do("grow", "side", "s3", "ann")
        self.refused(Grown("s3"), "drop", "main")

    def test_a_stem_that_is_called_like_its_keeper(self):
        self.set_up("main", "ann")
        self.do("seal", "ann", "s")
        self.do("drop", "ann")
        self.assertEqual(self.names(), ["main"])
        self.assertEqual([keeper[0] for keeper in self.head[1]], ["ann", "bob"])

    def test_names_may_be_taken_again(self):
        self.world()
        self.do("drop", "main")
        self.do("seal", "other", "main")
        self.do("stem", "s1", "bob")
        self.assertEqual([self.named(name)[1] for name in ("main", "s1")], [2, 1])


class BoundTest(DeedTest):
    def test_another_keepers_deed_may_raise_a_share(self):
        self.set_up("main")
        self.do("write", "main", "a", "x")
        self.do("seal", "main", "s")
        self.do("grow", "side", "s", "bob")
        self.do("keeper", "ann", 22)
        self.do("drop", "side")
        self.assertEqual(self.share("ann"), (44, 1))

    def test_only_the_keeper_of_the_stem_is_asked(self):
        self.set_up("main")
        self.do("stem", "other", "bob")
        self.make_poor("ann")
        self.do("write", "other", "a", "content")
        self.refused(OverBound("ann"), "write", "main", "a", "another")

    def test_an_equal_share_above_the_bound(self):
        self.set_up("main")
        self.do("write", "main", "a", "x")
        self.make_poor("ann")
        self.do("write", "main", "a", "y")
        self.do("write", "main", "a", "y")
        self.do("move", "main", "a", "b")
        self.refused(OverBound("ann"), "write", "main", "b", "yz")


class LostTest(DeedTest):
    def setUp(self):
        super().setUp()
        # a plain house can't lose anything
        self.plain = None

    def test_refused_with_lost_nothing_is_changed(self):
        self.set_up("main", "other")
        self.do("folder", "main", "a")
        self.do("write", "main", "a/b", "content")
        tag = self.house.tag_at("main", "a")
        spoil_copies(self.boards, tag)
        for deed in (("write", "main", "a/b", "x"), ("remove", "main", "a/b"), ("folder", "main", "a/c"),
                     ("move", "main", "a/b", "c"), ("splice", "main", "a/b", 0, 0, "x"),
                     ("copy", "other", "c", "main", "a/b")):
            self.refused(Lost(tag[0]), *deed)
        # the same folder can't be put elsewhere either, behind its file's blocks that are put
        self.do("folder", "other", "a")
        self.refused(Lost(tag[0]), "write", "other", "a/b", "content")
        self.assertEqual(self.tree("other"), {"a": None})

    def test_what_was_put_in_ahead_of_a_lost_one_is_free_again(self):
        self.set_up("main", "other")
        self.do("write", "main", "a", "xyz")
        tag = self.house.tag_at("main", "a")
        piece = self.pool.tags(tag[0])[0]
        spoil_copies(self.boards, piece)
        # its first piece is new, its second one is alike with the lost one, for all that can be seen
        self.refused(Lost(piece[0]), "write", "other", "b", "&&xyz")
        self.do("write", "other", "b", "&&")

    def test_what_is_done_changes_no_other_names_tree(self):
        self.set_up("main", "other", "third")
        self.do("folder", "main", "a")
        self.do("write", "main", "a/b", "content")
        self.do("write", "third", "x", "something else")
        self.do("seal", "third", "s")
        spoil_copies(self.boards, self.house.tag_at("main", "a"))
        ahead = {name: self.tree(name) for name in ("other", "third", "s")}
        self.do("copy", "other", "a", "main", "a")
        self.do("remove", "main", "a")
        self.do("remove", "other", "a")
        self.assertEqual(self.trees(), {"main": {}} | ahead)

    def test_alike_where_boards_and_houses_came_to_be_alike(self):
        deeds = (("keeper", "ann", MOST), ("stem", "main", "ann"), ("folder", "main", "a"),
                 ("write", "main", "a/b", "content"), ("write", "main", "c", "another content"))
        answers = []
        for turn in range(2):
            boards, house = new_house(2, *deeds)
            spoil_copies(boards, house.tag_at("main", "c"))
            answers.append([refusal_of(do, house, *deed) for deed in (
                ("write", "main", "d", "another content"), ("splice", "main", "c", 0, 1, "x"), ("remove", "main", "c"),
                ("write", "main", "c", "another content"), ("seal", "main", "s"))])
            answers.append(all_of(house, boards))
        self.assertEqual(answers[:2], answers[2:])


class AskersOwnTest(DeedTest):
    def test_heads_ahead_are_not_changed(self):
        self.set_up("main")
        self.do("write", "main", "a", "x")
        self.do("seal", "main", "s")
        ahead = self.head
        same = (ahead[0], tuple(ahead[1]), tuple(tuple(named) for named in ahead[2]))
        for deed in (("keeper", "ann", 5), ("keeper", "ann", MOST), ("stem", "new", "ann"), ("write", "main", "a", "y"),
                     ("grow", "side", "s", "bob"), ("back", "main"), ("graft", "side"), ("drop", "new")):
            self.do(*deed)
            self.assertNotEqual(self.head, ahead)
        self.assertEqual(ahead, same)


if __name__ == "__main__":
    unittest.main()
