"""A house: a new one, what is read in it, what it writes and in which order, and what its pool holds."""

import unittest

from helper import (
    DEEDS,
    MOST,
    STORY,
    Plain,
    SeenBoards,
    by_chance,
    do,
    do_all,
    every_cell,
    new_house,
    pool_state,
    reached_by,
    refusal_of,
    spoil_copies,
    tree_of,
)
from stemshelf.boards import Boards
from stemshelf.contents import content_at
from stemshelf.errors import Lost, NoName, NoPath, Stopped
from stemshelf.heads import head_of
from stemshelf.house import House
from stemshelf.marks import sealed
from stemshelf.opening import opened
from stemshelf.pool import Pool
from stemshelf.things import words_of

class NewHouseTest(unittest.TestCase):
    def test_on_two_three_and_four_boards(self):
        for many in (2, 3, 4):
            boards = SeenBoards(many)
            house = House(boards)
            self.assertEqual((house.head(), house.age()), ((0, (), ()), 0))
            self.assertEqual(house.pool().numbers(), [])
            row = sealed(words_of((0, (), ())))
            self.assertEqual(boards.seen, [(board, 0, row) for board in range(many)])
            self.assertEqual(every_cell(boards), [{0: row}] * many)
            self.assertEqual(head_of(boards), house.head())

    def test_stopped_while_it_is_laid(self):
        for many in range(3):
            boards = Boards(3)
            boards.stop(many)
            self.assertRaises(Stopped, House, boards)
            boards.stop(None)
            if many == 0:
                self.assertEqual(refusal_of(opened, boards), ("NoHouse", {}))
            else:
                self.assertEqual(opened(boards).head(), (1, (), ()))

    def test_two_houses_are_apart(self):
        one, other = House(Boards(2)), House(Boards(2))
        one.keeper("ann", 5)
        self.assertEqual(other.head(), (0, (), ()))
        self.assertEqual(House(Boards(2)).head(), (0, (), ()))

    def test_its_pool_is_its_own(self):
        boards, house = new_house(2, *STORY)
        self.assertIsInstance(house.pool(), Pool)
        self.assertIs(house.pool(), house.pool())
        self.assertEqual(content_at(house.pool(), house.tag_at("main", "a/b")), house.read("main", "a/b"))


class ReadTest(unittest.TestCase):
    def setUp(self):
        self.boards, self.house = new_house(
            3, ("keeper", "ann", MOST), ("stem", "main", "ann"), ("folder", "main", "b"), ("folder", "main", "b/c"),
            ("write", "main", "b/c/d", "deep down"), ("write", "main", "a", "a content of several pieces"),
            ("write", "main", "b0", ""), ("seal", "main", "s"), ("write", "main", "a", "other"), ("remove", "main", "b"))

    def test_contents(self):
        self.assertEqual(self.house.read("main", "a"), "other")
        self.assertEqual(self.house.read("main", "b0"), "")
        self.assertEqual(self.house.read("s", "a"), "a content of several pieces")
        self.assertEqual(self.house.read("s", "b/c/d"), "deep down")

    def test_what_read_refuses(self):
        for name in ("x", "ann", "", "Main", "a"):
            self.assertEqual(refusal_of(self.house.read, name, "A"), ("NoName", {"name": name}))
        for path in ("", "A", "/", "a/", "x", "x/y", "a/b", "b", "b/c", "b/x", "b/c/d/e"):
            self.assertEqual(refusal_of(self.house.read, "s", path), ("NoPath", {"path": path}))

    def test_paths(self):
        self.assertEqual(self.house.paths("s"), [("a", 1), ("b", 2), ("b/c", 2), ("b/c/d", 1), ("b0", 1)])
        self.assertEqual(self.house.paths("main"), [("a", 1), ("b0", 1)])
        self.house.stem("new", "ann")
        self.assertEqual(self.house.paths("new"), [])
        for name in ("x", "ann", ""):
            self.assertEqual(refusal_of(self.house.paths, name), ("NoName", {"name": name}))

    def test_tags(self):
        for name in ("main", "s"):
            root = [named[4] for named in self.house.head()[2] if named[0] == name][0]
            self.assertEqual(self.house.tag_at(name, ""), root)
        self.assertEqual(self.house.pool().block(self.house.tag_at("s", "b/c")),
                         (2, (("d", 1, self.house.tag_at("s", "b/c/d")),)))
        for name in ("x", "ann", ""):
            self.assertEqual(refusal_of(self.house.tag_at, name, "A"), ("NoName", {"name": name}))
        for path in ("A", "/", "x", "x/y", "a/b", "b/x", "b/c/d/e"):
            self.assertEqual(refusal_of(self.house.tag_at, "s", path), ("NoPath", {"path": path}))

    def test_a_lost_folder(self):
        tag = self.house.tag_at("s", "b/c")
        spoil_copies(self.boards, tag)
        lost = ("Lost", {"number": tag[0]})
        self.assertEqual(refusal_of(self.house.read, "s", "b/c/d"), lost)
        self.assertEqual(refusal_of(self.house.tag_at, "s", "b/c/d"), lost)
        self.assertEqual(refusal_of(self.house.paths, "s"), lost)
        self.assertEqual(self.house.tag_at("s", "b/c"), tag)
        self.assertEqual(refusal_of(self.house.read, "s", "b/c"), ("NoPath", {"path": "b/c"}))
        self.assertEqual(self.house.read("s", "a"), "a content of several pieces")
        self.assertEqual(tree_of(self.house, "main"), {"a": "other", "b0": ""})

    def test_a_lost_root(self):
        tag = self.house.tag_at("s", "")
        spoil_copies(self.boards, tag)
        lost = ("Lost", {"number": tag[0]})
        for asked in ((self.house.read, "s", "a"), (self.house.tag_at, "s", "a"), (self.house.paths, "s")):
            self.assertEqual(refusal_of(*asked), lost)
        self.assertEqual(self.house.tag_at("s", ""), tag)

    def test_a_lost_piece(self):
        row = self.house.tag_at("s", "a")
        tag = self.house.pool().tags(row[0])[0]
        spoil_copies(self.boards, tag)
        self.assertEqual(refusal_of(self.house.read, "s", "a")[0], "Lost")
        self.assertEqual(self.house.tag_at("s", "a"), row)
        self.assertEqual(len(self.house.paths("s")), 5)

    def test_one_copy_is_enough(self):
        ahead = {name: tree_of(self.house, name) for name in ("main", "s")}
        for place in (0, 1):
            boards, house = new_house(3)
            do_all(house, STORY)
            due = {name: tree_of(house, name) for name in ("main", "side", "s")}
            for number in house.pool().numbers():
                spoil_copies(boards, house.pool().tag(number), (place,))
            self.assertEqual({name: tree_of(house, name) for name in ("main", "side", "s")}, due)
        for number in self.house.pool().numbers():
            spoil_copies(self.boards, self.house.pool().tag(number), (number % 2,))
        self.assertEqual({name: tree_of(self.house, name) for name in ("main", "s")}, ahead)
        self.house.write("main", "more", "a content of several pieces")
        self.assertEqual(self.house.tag_at("main", "more"), self.house.tag_at("s", "a"))

    def test_each_list_is_the_askers_own(self):
        paths = self.house.paths("s")
        paths.clear()
        self.house.pool().numbers().clear()
        self.assertEqual(len(self.house.paths("s")), 5)
        self.assertNotEqual(self.house.pool().numbers(), [])

    def test_asking_changes_nothing(self):
        ahead = self.house.head(), pool_state(self.house.pool()), self.boards.written(), every_cell(self.boards)
        for name in ("main", "s"):
            tree_of(self.house, name)
            self.house.tag_at(name, "a")
        self.house.age()
        self.assertEqual((self.house.head(), pool_state(self.house.pool()), self.boards.written(),
                          every_cell(self.boards)), ahead)


class StoryTest(unittest.TestCase):
    def test_each_deed_read_back(self):
        self.assertEqual({deed[0] for deed in STORY}, set(DEEDS))
        for many in (2, 3, 4):
            boards, house = new_house(many)
            plain = Plain()
            for deed in STORY:
                do(house, *deed)
                plain = plain.behind(deed[0], deed[1:])
                self.assertEqual(house.age(), plain.age)
                self.assertEqual(house.head()[1], tuple(sorted(plain.keepers.items())))
                for name, tree in plain.trees().items():
                    self.assertEqual(tree_of(house, name), tree)
                    self.assertEqual(house.paths(name), sorted((path, 1 if tree[path] is not None else 2)
                                                               for path in tree))

    def test_alike_contents_have_one_tag(self):
        boards, house = new_house(2, *STORY)
        house.write("main", "x", "An elm.")
        house.write("side", "y", "An elm!")
        self.assertNotEqual(house.tag_at("main", "x"), house.tag_at("side", "y"))
        house.splice("side", "y", 6, 1, ".")
        self.assertEqual(house.tag_at("main", "x"), house.tag_at("side", "y"))


class WritesTest(unittest.TestCase):
    """What a deed writes: the draft by rising numbers, on the first twin and on the second, then the head."""

    def looked_at(self, boards, house, deed):
        ahead, written = house.head(), boards.written()
        reached = {tag[0]: tag for tag in reached_by(boards, ahead)}
        cells = every_cell(boards)
        boards.seen.clear()
        do(house, *deed)
        behind = house.head()
        new = sorted(tag for tag in reached_by(boards, behind) if tag not in reached.values())
        due = []
        for tag in new:
            self.assertEqual(tag[1], behind[0])
            self.assertNotIn(tag[0], reached)
            row = sealed(words_of((tag[0], tag[1], house.pool().block(tag))))
            due.extend((board, tag[0], row) for board in boards.twins(tag[0]))
        row = sealed(words_of(behind))
        due.extend((board, 0, row) for board in range(boards.many()))
        self.assertEqual(boards.seen, due)
        self.assertEqual(boards.written(), written + len(due))
        for number in reached:
            for board in range(boards.many()):
                self.assertEqual(boards.cell(board, number), cells[board].get(number))

    def holds(self, boards, house):
        """The pool's cells are just what the names reach, each counted as often as it is named."""
        reached = reached_by(boards, house.head())
        pool = house.pool()
        self.assertEqual([pool.tag(number) for number in pool.numbers()], sorted(reached))
        for tag, (block, count) in reached.items():
            self.assertEqual((pool.block(tag), pool.count(tag[0])), (block, count))
        blocks = [block for block, count in reached.values()]
        self.assertEqual(len(set(blocks)), len(blocks))

    def test_of_each_deed(self):
        for many in (2, 3, 4):
            boards, house = new_house(many)
            for deed in STORY:
                self.looked_at(boards, house, deed)
                self.holds(boards, house)

    def test_of_deeds_by_chance(self):
        for seed in range(3):
            boards, house = new_house(2 + seed)
            for deed, plain in by_chance(seed + 500, 60):
                self.looked_at(boards, house, deed)
                self.holds(boards, house)

    def test_what_was_put_in_and_isnt_reached_is_not_laid(self):
        boards, house = new_house(2, ("keeper", "ann", MOST), ("stem", "main", "ann"), ("write", "main", "f", "x"),
                                  ("seal", "main", "s"))
        boards.seen.clear()
        # the root without f is put in on the way, but not reached
        house.move("main", "f", "g")
        self.assertEqual([number for board, number, row in boards.seen if number > 0],
                         [house.tag_at("main", "")[0]] * 2)

    def test_what_isnt_reached_any_more_is_free(self):
        boards, house = new_house(2, ("keeper", "ann", MOST), ("stem", "main", "ann"), ("write", "main", "f", "x"))
        ahead = house.pool().numbers()
        house.write("main", "f", "yz")
        self.assertEqual(set(house.pool().numbers()) & set(ahead), set())
        house.write("main", "f", "x")
        self.assertEqual([house.pool().tag(number)[1] for number in house.pool().numbers()], [5, 5, 5])

    def test_cells_that_are_free_are_taken_anew(self):
        boards, house = new_house(2, ("keeper", "ann", MOST), ("stem", "main", "ann"))
        for turn in range(100):
            house.write("main", "f", f"content {turn}")
        self.assertLess(max(house.pool().numbers()), 40)

    def test_births(self):
        boards, house = new_house(2, ("keeper", "ann", MOST), ("stem", "main", "ann"))
        self.assertEqual(house.tag_at("main", "")[1], 2)
        house.write("main", "a", "content")
        self.assertEqual(house.tag_at("main", "a")[1], 3)
        refusal_of(house.write, "main", "a/b", "x")
        house.write("main", "b", "content")
        self.assertEqual(house.tag_at("main", "b")[1], 3)
        self.assertEqual(house.tag_at("main", "")[1], 4)


class ErrorsTest(unittest.TestCase):
    def test_refusals_are_of_the_classes_told(self):
        boards, house = new_house(2, *STORY)
        self.assertRaises(NoName, house.read, "x", "a")
        self.assertRaises(NoPath, house.read, "main", "x")
        spoil_copies(boards, house.tag_at("main", ""))
        self.assertRaises(Lost, house.paths, "main")


if __name__ == "__main__":
    unittest.main()
