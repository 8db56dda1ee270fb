"""The plain house: told the same as a house, it answers the same, but for OverBound. (test_deeds has each deed.)"""

import unittest

from helper import MOST, STORY, Chance, Plain, do, do_all, new_house, refusal_of, tree_of
from stemshelf.accounts import account_of
from stemshelf.plain import PlainHouse
from stemshelf.taking import take_in


class DeedsTest(unittest.TestCase):
    def test_the_story(self):
        boards, house = new_house(2)
        plain = PlainHouse()
        for deed in STORY:
            do(house, *deed)
            self.assertIsNone(do(plain, *deed))
            for named in house.head()[2]:
                self.assertEqual(plain.paths(named[0]), house.paths(named[0]))
                self.assertEqual(tree_of(plain, named[0]), tree_of(house, named[0]))

    def test_deeds_by_chance(self):
        met = {}
        for seed in range(60, 66):
            boards, house = new_house(2 + seed % 3)
            plain, model, chance = PlainHouse(), Plain(), Chance(seed)
            for turn in range(200):
                deed = chance.deed(model)
                due = refusal_of(do, house, *deed)
                if due is None or due[0] != "OverBound":
                    self.assertEqual(refusal_of(do, plain, *deed), due, deed)
                if due is None:
                    model = model.behind(deed[0], deed[1:])
                met[due and due[0]] = met.get(due and due[0], 0) + 1
                self.assertEqual({named[0]: tree_of(plain, named[0]) for named in house.head()[2]}, model.trees())
            for name in ("p0", "q1", "x", "ann"):
                self.assertEqual(refusal_of(plain.paths, name), refusal_of(house.paths, name))
        self.assertEqual(set(met), {None, "NoName", "NoPath", "Twice", "TooMany", "OverBound", "Bare", "Grown"})

    def test_bounds_play_no_part(self):
        plain = do_all(PlainHouse(), (("keeper", "ann", 0), ("stem", "main", "ann"), ("write", "main", "a", "x" * 400)))
        self.assertEqual(plain.read("main", "a"), "x" * 400)
        plain.keeper("ann", 5)
        plain.write("main", "b", "y" * 400)
        self.assertEqual(plain.paths("main"), [("a", 1), ("b", 1)])

    def test_two_are_apart(self):
        one, other = PlainHouse(), PlainHouse()
        do_all(one, (("keeper", "ann", 0), ("stem", "main", "ann")))
        self.assertEqual(refusal_of(other.paths, "main"), ("NoName", {"name": "main"}))

    def test_seals_stay_as_they_are(self):
        plain = do_all(PlainHouse(), (("keeper", "ann", 0), ("stem", "main", "ann"), ("write", "main", "a", "one"),
                                      ("seal", "main", "s"), ("grow", "side", "s", "ann"), ("write", "main", "a", "two"),
                                      ("write", "side", "b", "three"), ("remove", "side", "a")))
        self.assertEqual([tree_of(plain, name) for name in ("main", "s", "side")],
                         [{"a": "two"}, {"a": "one"}, {"b": "three"}])


class ReadTest(unittest.TestCase):
    def setUp(self):
        self.plain = do_all(PlainHouse(), (
            ("keeper", "ann", 0), ("stem", "main", "ann"), ("folder", "main", "b"), ("write", "main", "b/c", "deep"),
            ("write", "main", "a", ""), ("seal", "main", "s"), ("write", "main", "b0", "x")))

    def test_contents(self):
        self.assertEqual([self.plain.read("main", path) for path in ("b/c", "a", "b0")], ["deep", "", "x"])
        self.assertEqual(self.plain.read("s", "b/c"), "deep")

    def test_what_read_refuses(self):
        for name in ("x", "ann", "", "Main"):
            self.assertEqual(refusal_of(self.plain.read, name, "A"), ("NoName", {"name": name}))
        for path in ("", "A", "/", "b", "x", "x/y", "a/b", "b/c/d", "b/x"):
            self.assertEqual(refusal_of(self.plain.read, "main", path), ("NoPath", {"path": path}))

    def test_paths(self):
        self.assertEqual(self.plain.paths("main"), [("a", 1), ("b", 2), ("b/c", 1), ("b0", 1)])
        self.assertEqual(self.plain.paths("s"), [("a", 1), ("b", 2), ("b/c", 1)])
        self.plain.paths("main").clear()
        self.assertEqual(len(self.plain.paths("main")), 4)
        self.assertEqual(refusal_of(self.plain.paths, "x"), ("NoName", {"name": "x"}))


class TakeInTest(unittest.TestCase):
    def setUp(self):
        self.plain = do_all(PlainHouse(), (("keeper", "ann", 0), ("stem", "main", "ann"), ("seal", "main", "s")))

    def refused(self, due, *parts):
        self.assertEqual(refusal_of(self.plain.take_in, *parts), due)
        self.assertEqual(refusal_of(self.plain.paths, "new"), ("NoName", {"name": "new"}))

    def test_a_tree(self):
        tree = {"b/c": "deep", "a": "", "b": None}
        self.assertIsNone(self.plain.take_in("new", "ann", tree))
        self.assertEqual(tree_of(self.plain, "new"), tree)
        self.plain.take_in("bare", "ann", {})
        self.assertEqual(self.plain.paths("bare"), [])
        do_all(self.plain, (("write", "new", "b/d", "x"), ("seal", "new", "t"), ("copy", "main", "all", "t", "")))
        self.assertEqual(tree_of(self.plain, "main"),
                         {"all": None, "all/a": "", "all/b": None, "all/b/c": "deep", "all/b/d": "x"})

    def test_a_dict_that_is_changed_afterwards(self):
        tree = {"a": "one", "b": None}
        self.plain.take_in("new", "ann", tree)
        tree["a"] = "two"
        tree["c"] = "three"
        tree.pop("b")
        self.assertEqual(tree_of(self.plain, "new"), {"a": "one", "b": None})

    def test_the_dict_is_not_changed(self):
        tree = {"a": "one", "b": None}
        self.plain.take_in("new", "ann", tree)
        do_all(self.plain, (("write", "new", "a", "two"), ("remove", "new", "b"), ("write", "new", "c", "x")))
        self.assertEqual(tree, {"a": "one", "b": None})

    def test_refusals(self):
        for name in ("", "A", "a b", "abcdefghi"):
            self.refused(("NoName", {"name": name}), name, "x", {})
        for name in ("main", "s"):
            self.refused(("Twice", {"name": name}), name, "x", {})
        for keeper in ("x", "main", ""):
            self.refused(("NoName", {"name": keeper}), "new", keeper, {"a": "x" * 401})

    def test_too_many(self):
        wide = {name: None for name in "abcd"} | {f"{name}/{number}": "" for name in "abcd" for number in range(14)}
        deep = {"/".join("abcdefgh"[:many]): None for many in range(1, 9)}
        for tree, more in ((wide, {"e": ""}), (deep, {"a/b/c/d/e/f/g/h/i": ""}), ({"a": "x" * 400}, {"b": "x" * 401}),
                           ({f"n{number}": None for number in range(16)}, {"m": None})):
            self.refused(("TooMany", {}), "new", "ann", tree | more)
            self.plain.take_in("new", "ann", tree)
            self.assertEqual(tree_of(self.plain, "new"), tree)
            self.plain.drop("new")
        for number in range(22):
            self.plain.seal("main", f"n{number}")
        self.refused(("TooMany", {}), "new", "ann", {})
        self.refused(("Twice", {"name": "s"}), "s", "ann", {})
        self.refused(("NoName", {"name": "x"}), "new", "x", {})
        self.plain.drop("n5")
        self.plain.take_in("new", "ann", {})

    def test_as_a_house_takes_an_account_in(self):
        boards, house = new_house(2, *STORY)
        account = account_of(house)
        other_boards, other = new_house(3, ("keeper", "ann", MOST))
        self.plain = do_all(PlainHouse(), (("keeper", "ann", MOST),))
        for source in [named[0] for named in account[2]]:
            take_in(other, source, "ann", account, source)
            self.plain.take_in(source, "ann", tree_of(house, source))
            self.assertEqual(tree_of(self.plain, source), tree_of(other, source))
        for deed in (("write", "main", "a/b", "new"), ("seal", "side", "t"), ("move", "side", "e", "f"), ("back", "side"),
                     ("drop", "side")):
            self.assertEqual(refusal_of(do, self.plain, *deed), refusal_of(do, other, *deed))
            for named in other.head()[2]:
                self.assertEqual(tree_of(self.plain, named[0]), tree_of(other, named[0]))


if __name__ == "__main__":
    unittest.main()
