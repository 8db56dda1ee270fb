import random
import unittest

from stemshelf.boards import Boards
from stemshelf.contents import put_content
from stemshelf.errors import Lost, NoPath, TooMany
from stemshelf.pool import Pool
from stemshelf.trees import all_in, entry_at, with_entry

DEEP = "/".join("abcdefgh")
SIXTEEN = [f"n{number}" for number in range(10, 26)]


def state(pool):
    return [(number, pool.tag(number), pool.count(number), pool.tags(number)) for number in pool.numbers()]


class TreeTest(unittest.TestCase):
    def setUp(self):
        self.boards = Boards(3)
        self.pool = Pool(self.boards)
        self.empty = self.pool.put((2, ()), 0)
        self.file = (1, put_content(self.pool, "content", 0))
        self.other = (1, put_content(self.pool, "another", 0))
        self.folder = (2, self.empty)

    def at(self, root, path):
        return entry_at(self.pool, root, path)

    def changed(self, root, path, entry, birth=0):
        return with_entry(self.pool, root, path, entry, birth)

    def tree(self, *pairs):
        root = self.empty
        for path, entry in pairs:
            root = self.changed(root, path, entry)
        return root

    def full(self):
        return self.tree(*[(name, self.file) for name in SIXTEEN])

    def deepest(self):
        """Folders a, a/b and so on to seven steps, and a file at eight."""
        paths = ["/".join("abcdefg"[:many]) for many in range(1, 8)]
        return self.tree(*[(path, self.folder) for path in paths], (DEEP, self.file))

    def refused(self, path, deed):
        """What refuses a deed with NoPath changes nothing, and has the path as its field."""
        ahead = state(self.pool)
        with self.assertRaises(NoPath) as caught:
            deed()
        self.assertEqual(caught.exception.path, path)
        self.assertEqual(state(self.pool), ahead)


class EntryTest(TreeTest):
    def test_the_root(self):
        for root in (self.empty, self.tree(("a", self.file))):
            self.assertEqual(self.at(root, ""), (2, root))

    def test_the_root_is_not_read(self):
        self.pool.lay_draft()
        for board in range(3):
            self.boards.lose(board)
        self.assertEqual(self.at(self.empty, ""), (2, self.empty))

    def test_at_the_root_and_in_folders(self):
        root = self.tree(("a", self.file), ("b", self.folder), ("b/a", self.other), ("b/c", self.folder),
                         ("b/c/d", self.file))
        self.assertEqual(self.at(root, "a"), self.file)
        self.assertEqual(self.at(root, "b/a"), self.other)
        self.assertEqual(self.at(root, "b/c/d"), self.file)
        kind, tag = self.at(root, "b")
        self.assertEqual(kind, 2)
        self.assertEqual(self.at(tag, "a"), self.other)
        self.assertEqual(self.at(tag, "c/d"), self.file)
        self.assertEqual(self.at(self.at(root, "b/c")[1], "d"), self.file)

    def test_at_eight_steps(self):
        root = self.deepest()
        self.assertEqual(self.at(root, DEEP), self.file)
        self.assertEqual(self.at(root, DEEP[:-2])[0], 2)
        self.assertIsNone(self.at(root, DEEP[:-1] + "x"))

    def test_nothing_there(self):
        root = self.tree(("a", self.file), ("b", self.folder), ("ab", self.folder), ("ab/c", self.file))
        for path in ("c", "a/b", "a/b/c", "b/a", "b/a/c", "c/d/e/f/g/h/i/j", "aa", "a/c", "ab/c/d", "b/c"):
            self.assertIsNone(self.at(root, path), path)
        self.assertIsNone(self.at(self.empty, "a"))

    def test_no_path(self):
        root = self.tree(("a", self.file))
        for path in ("/", "a/", "/a", "A", "abcdefghi", "a//b", DEEP + "/i"):
            self.refused(path, lambda: self.at(root, path))

    def test_behind_the_draft_being_laid(self):
        root = self.deepest()
        self.pool.lay_draft()
        self.assertEqual(self.at(root, DEEP), self.file)


class WithTest(TreeTest):
    def test_put_in(self):
        root = self.changed(self.empty, "b", self.file)
        self.assertEqual(self.pool.block(root), (2, (("b", 1, self.file[1]),)))
        root = self.changed(root, "a", self.folder)
        self.assertEqual(self.pool.block(root), (2, (("a", 2, self.empty), ("b", 1, self.file[1]))))
        root = self.changed(root, "a/c", self.other)
        inner = self.pool.put((2, (("c", 1, self.other[1]),)), 0)
        self.assertEqual(self.pool.block(root), (2, (("a", 2, inner), ("b", 1, self.file[1]))))

    def test_names_rise_in_whatever_turn_they_came(self):
        names = ["b", "a0", "a", "0", "z", "ab", "aa"]
        for seed in range(5):
            random.Random(seed).shuffle(names)
            root = self.tree(*[(name, self.file) for name in names])
            self.assertEqual([entry[0] for entry in self.pool.block(root)[1]], ["0", "a", "a0", "aa", "ab", "b", "z"])

    def test_in_the_place_of_another(self):
        root = self.tree(("a", self.file), ("b", self.folder), ("b/c", self.file))
        for path in ("a", "b", "b/c"):
            for entry in (self.other, self.folder, (2, root)):
                anew = self.changed(root, path, entry)
                self.assertEqual(self.at(anew, path), entry)
                self.assertEqual(len(self.pool.block(anew)[1]), 2)
        self.assertEqual(self.at(self.changed(root, "b/c", self.other), "a"), self.file)

    def test_the_same_entry_is_the_same_tree(self):
        root = self.tree(("a", self.file), ("b", self.folder), ("b/c", self.file))
        ahead = state(self.pool)
        for path in ("a", "b", "b/c"):
            self.assertEqual(self.changed(root, path, self.at(root, path), 5), root)
        self.assertEqual(state(self.pool), ahead)

    def test_taken_away(self):
        root = self.tree(("a", self.file), ("b", self.folder), ("b/c", self.file))
        self.assertEqual(self.changed(root, "b/c", None), self.tree(("a", self.file), ("b", self.folder)))
        self.assertEqual(self.changed(root, "b", None), self.tree(("a", self.file)))
        self.assertEqual(self.changed(self.changed(root, "b", None), "a", None), self.empty)

    def test_taken_away_where_nothing_stood(self):
        root = self.tree(("a", self.file), ("b", self.folder), ("b/c", self.file), ("b/d", self.folder))
        self.pool.lay_draft()
        ahead = state(self.pool)
        for path in ("c", "aa", "b/a", "b/cc", "b/d/e"):
            self.assertEqual(self.changed(root, path, None, 9), root)
        self.assertEqual(self.changed(self.empty, "a", None, 9), self.empty)
        self.assertEqual(state(self.pool), ahead)

    def test_the_folder_is_not_there(self):
        root = self.tree(("a", self.file), ("b", self.folder))
        for path in ("c/d", "a/b", "b/c/d", "a/b/c", "c/d/e/f/g/h/i/j"):
            for entry in (self.file, self.folder, None):
                self.refused(path, lambda: self.changed(root, path, entry))

    def test_no_path_and_the_root(self):
        root = self.tree(("a", self.folder))
        for path in ("", "/", "a/", "/a", "A", "abcdefghi", "a//b", DEEP + "/i"):
            for entry in (self.file, self.folder, None):
                self.refused(path, lambda: self.changed(root, path, entry))

    def test_eight_steps(self):
        root = self.changed(self.deepest(), DEEP, self.other)
        self.assertEqual(self.at(root, DEEP), self.other)
        self.assertEqual(self.pool.deep(root[0]), 8)
        root = self.changed(root, DEEP, None)
        self.assertIsNone(self.at(root, DEEP))
        self.assertEqual((self.pool.deep(root[0]), self.pool.entries(root[0])), (7, 7))

    def test_a_seventeenth_entry(self):
        full = self.full()
        within = self.tree(("x", (2, full)))
        ahead = state(self.pool)
        for root, path in ((full, "a"), (full, "z"), (full, "n26"), (within, "x/a"), (within, "x/z")):
            for entry in (self.other, self.folder):
                with self.assertRaises(TooMany):
                    self.changed(root, path, entry)
                self.assertEqual(state(self.pool), ahead)
            self.assertEqual(self.changed(root, path, None), root)

    def test_sixteen_entries_may_be_changed(self):
        full = self.full()
        self.assertEqual(len(self.pool.block(full)[1]), 16)
        anew = self.changed(full, "n12", self.other)
        self.assertEqual(self.at(anew, "n12"), self.other)
        inner = self.changed(self.changed(full, "n12", self.folder), "n12/a", self.file)
        self.assertEqual(self.at(inner, "n12/a"), self.file)
        fifteen = self.changed(full, "n25", None)
        self.assertEqual(len(self.pool.block(fifteen)[1]), 15)
        self.assertEqual(self.at(self.changed(fifteen, "z", self.other), "z"), self.other)

    def test_no_path_goes_ahead_of_too_many(self):
        full = self.full()
        self.refused("A", lambda: self.changed(full, "A", self.file))
        self.refused("z/a", lambda: self.changed(full, "z/a", self.file))
        self.refused("n10/a", lambda: self.changed(full, "n10/a", self.file))

    def test_the_birth_is_that_of_new_folders_alone(self):
        root = self.tree(("a", self.folder), ("b", self.folder), ("b/c", self.folder))
        anew = self.changed(root, "b/c/d", self.file, 7)
        self.assertEqual([self.at(anew, path)[1][1] for path in ("", "a", "b", "b/c", "b/c/d")], [7, 0, 7, 7, 0])

    def test_only_the_folders_above_are_put_anew(self):
        root = self.tree(("a", self.folder), ("b", self.folder), ("b/c", self.folder), ("b/d", self.file))
        taken = len(self.pool.numbers())
        self.changed(root, "b/c/e", self.other)
        self.assertEqual(len(self.pool.numbers()), taken + 3)

    def test_other_trees_read_as_before(self):
        root = self.tree(("a", self.folder), ("a/b", self.file), ("a/c", self.folder), ("a/c/d", self.file))
        shared = self.at(root, "a")
        other = self.tree(("x", shared), ("y", shared), ("z", self.file))
        both = all_in(self.pool, root), all_in(self.pool, other)
        for path, entry in (("a/b", self.other), ("a/c/d", None), ("a/c", self.other), ("a/e", self.folder), ("a", None)):
            self.changed(root, path, entry)
        for path, entry in (("x/b", self.other), ("y/c/d", None), ("y", self.file)):
            self.changed(other, path, entry)
        self.assertEqual((all_in(self.pool, root), all_in(self.pool, other)), both)
        anew = self.changed(other, "x/b", self.other)
        self.assertEqual(self.at(anew, "x/b"), self.other)
        self.assertEqual(self.at(anew, "y/b"), self.file)

    def test_no_write_is_done(self):
        self.boards.stop(0)
        all_in(self.pool, self.changed(self.deepest(), "z", self.file))
        self.assertEqual(self.boards.written(), 0)


class AllTest(TreeTest):
    def test_the_root_too(self):
        self.assertEqual(all_in(self.pool, self.empty), [("", 2, self.empty)])

    def test_sorted_by_paths(self):
        paths = ["b", "a", "a/b", "ab", "a0", "a/b/c", "a/b0", "0"]
        root = self.tree(*[(path, self.file if path in ("0", "ab") else self.folder) for path in paths])
        found = all_in(self.pool, root)
        self.assertEqual([one[0] for one in found], ["", "0", "a", "a/b", "a/b/c", "a/b0", "a0", "ab", "b"])
        self.assertEqual(found, [(path,) + self.at(root, path) for path in sorted(paths + [""])])

    def test_one_folder_at_several_paths(self):
        inner = self.tree(("a", self.file), ("b", self.folder))
        root = self.tree(("x", (2, inner)), ("y", (2, inner)))
        self.assertEqual(all_in(self.pool, root), [
            ("", 2, root), ("x", 2, inner), ("x/a", *self.file), ("x/b", *self.folder),
            ("y", 2, inner), ("y/a", *self.file), ("y/b", *self.folder),
        ])

    def test_eight_deep(self):
        found = all_in(self.pool, self.deepest())
        self.assertEqual([one[0] for one in found], ["/".join(DEEP.split("/")[:many]) for many in range(9)])
        self.assertEqual([one[1] for one in found], [2] * 8 + [1])

    def test_sixteen_in_a_folder(self):
        root = self.tree(("x", (2, self.full())))
        found = all_in(self.pool, root)
        self.assertEqual([one[0] for one in found], ["", "x"] + ["x/" + name for name in SIXTEEN])

    def test_each_time_a_new_list(self):
        root = self.tree(("a", self.file))
        due = all_in(self.pool, root)
        all_in(self.pool, root).append(("b", 1, self.file[1]))
        all_in(self.pool, root).clear()
        self.assertEqual(all_in(self.pool, root), due)


class LostTest(TreeTest):
    def setUp(self):
        TreeTest.setUp(self)
        self.root = self.tree(("a", self.folder), ("a/b", self.folder), ("a/b/c", self.file), ("d", self.folder),
                              ("d/e", self.other), ("f", self.file))
        self.pool.hold(self.root)
        self.pool.hold(self.empty)
        self.pool.sweep()
        self.pool.lay_draft()

    def lose(self, path):
        tag = self.at(self.root, path)[1]
        for board in self.boards.twins(tag[0]):
            self.boards.spoil(board, tag[0], None)
        return tag[0]

    def lost(self, number, deed):
        ahead = state(self.pool)
        with self.assertRaises(Lost) as caught:
            deed()
        self.assertEqual(caught.exception.number, number)
        self.assertEqual(state(self.pool), ahead)

    def test_a_folder_on_the_way(self):
        number = self.lose("a/b")
        for path in ("a/b/c", "a/b/x", "a/b/x/y"):
            self.lost(number, lambda: self.at(self.root, path))
        for path in ("a/b/c", "a/b/x"):
            for entry in (self.file, None):
                self.lost(number, lambda: self.changed(self.root, path, entry))
        self.lost(number, lambda: all_in(self.pool, self.root))

    def test_what_is_not_come_to(self):
        self.lose("a/b")
        self.assertEqual(self.at(self.root, "a/b")[0], 2)
        self.assertIsNone(self.at(self.root, "a/x"))
        self.assertEqual(self.at(self.root, "d/e"), self.other)
        self.assertEqual(self.at(self.changed(self.root, "d/e", self.file), "d/e"), self.file)
        self.assertIsNone(self.at(self.changed(self.root, "a", None), "a"))
        self.assertEqual(self.at(self.changed(self.root, "a/b", self.file), "a/b"), self.file)
        self.refused("f/x/y", lambda: self.changed(self.root, "f/x/y", self.file))

    def test_the_root(self):
        number = self.lose("")
        self.lost(number, lambda: self.at(self.root, "a"))
        self.lost(number, lambda: self.at(self.root, "x/y"))
        self.lost(number, lambda: self.changed(self.root, "a", None))
        self.lost(number, lambda: self.changed(self.root, "x/y", self.file))
        self.lost(number, lambda: all_in(self.pool, self.root))

    def test_lost_files_are_no_matter(self):
        due = all_in(self.pool, self.root)
        self.lose("f")
        self.lose("d/e")
        self.assertEqual(all_in(self.pool, self.root), due)
        self.assertEqual(self.at(self.root, "f"), self.file)

    def test_what_is_put_may_be_refused_by_a_lost_block_of_the_same_sum(self):
        # without d/e the folder d is the empty one, which can't be read to be told alike
        number = self.empty[0]
        for board in self.boards.twins(number):
            self.boards.spoil(board, number, None)
        self.lost(number, lambda: self.changed(self.root, "d/e", None))

    def test_no_path_goes_ahead(self):
        self.lose("")
        for path in ("A", "a//b", DEEP + "/i"):
            self.refused(path, lambda: self.at(self.root, path))
            self.refused(path, lambda: self.changed(self.root, path, self.file))


class ManyTreesTest(TreeTest):
    """Trees against plain dicts from paths to entries."""

    def due(self, plain, path, entry):
        folder, slash, name = path.rpartition("/")
        if folder and plain.get(folder, "file") != "folder":
            return NoPath
        anew = {other: one for other, one in plain.items() if other != path and not other.startswith(path + "/")}
        if entry is not None:
            anew[path] = entry
        if sum(1 for other in anew if other.rpartition("/")[0] == folder) > 16:
            return TooMany
        return anew

    def check(self, root, plain):
        entries = {"folder": None, "file": self.file[1], "other": self.other[1]}
        found = {path: (kind, tag) for path, kind, tag in all_in(self.pool, root)}
        self.assertEqual(found.pop(""), (2, root))
        self.assertEqual(list(found), sorted(plain))
        for path, word in plain.items():
            self.assertEqual(found[path], self.at(root, path))
            self.assertEqual(found[path][0], 2 if word == "folder" else 1)
            if word != "folder":
                self.assertEqual(found[path][1], entries[word])

    def test_many_changes(self):
        words = {"folder": self.folder, "file": self.file, "other": self.other, None: None}
        for seed in range(8):
            chance = random.Random(seed)
            root, plain, told = self.empty, {}, {}
            for turn in range(150):
                names = [chance.choice("ab") if seed % 2 else chance.choice("abcdefghijklmnopqrst")
                         for step in range(chance.choice((1, 1, 2, 3, 4)))]
                path = "/".join(names)
                word = chance.choice(("folder", "folder", "file", "other", None))
                due = self.due(plain, path, word)
                if due in (NoPath, TooMany):
                    with self.assertRaises(due):
                        self.changed(root, path, words[word], turn)
                    continue
                root, plain = self.changed(root, path, words[word], turn), due
                self.check(root, plain)
                key = tuple(sorted(plain.items()))
                self.assertEqual(told.setdefault(key, root), root)
                if turn % 10 == 0:
                    self.pool.lay_draft()
            self.assertEqual(len(set(told.values())), len(told))


if __name__ == "__main__":
    unittest.main()
