import random
import unittest

from helper import MOST, new_house, tree_of
from stemshelf.errors import Bare, Grown, NoName
from stemshelf.heads import is_head
from stemshelf.histories import grafted, history_in

KEEPERS = (("ann", 5), ("bob", 6))


def tag(number):
    return (number, 0, 5)


def head_with(*names):
    return (9, KEEPERS, tuple(sorted(names)))


# main: m1 m2 m3; side grew from m2: s1 s2; leaf from s1: no seals; early from m1: e1
TREE = head_with(
    ("main", 1, "ann", "", tag(1)), ("side", 1, "bob", "m2", tag(2)), ("leaf", 1, "ann", "s1", tag(3)),
    ("early", 1, "bob", "m1", tag(4)),
    ("m1", 2, "main", 3, tag(11)), ("m2", 2, "main", 5, tag(12)), ("m3", 2, "main", 20, tag(13)),
    ("s1", 2, "side", 7, tag(21)), ("s2", 2, "side", 30, tag(22)), ("e1", 2, "early", 6, tag(41)),
)
HISTORIES = {
    "main": ["m1", "m2", "m3"], "side": ["m1", "m2", "s1", "s2"], "leaf": ["m1", "m2", "s1"], "early": ["m1", "e1"],
}


def stems(head):
    return [named[0] for named in head[2] if named[1] == 1]


def histories(head):
    return {stem: history_in(head, stem) for stem in stems(head)}


def reads(head):
    """Of each name what stays as it was: its kind, its tag, a stem's keeper, a seal's turn."""
    return [(name, kind, own, other if kind == 1 else turn) for name, kind, other, turn, own in head[2]]


class HistoryTest(unittest.TestCase):
    def test_a_stem_of_its_own(self):
        self.assertEqual(history_in(head_with(("a", 1, "ann", "", tag(1))), "a"), [])
        self.assertEqual(history_in(TREE, "main"), ["m1", "m2", "m3"])

    def test_by_turns_not_by_names(self):
        head = head_with(("a", 1, "ann", "", tag(1)), ("x", 2, "a", 8, tag(1)), ("y", 2, "a", 2, tag(1)),
                         ("z", 2, "a", 5, tag(1)))
        self.assertEqual(history_in(head, "a"), ["y", "z", "x"])

    def test_with_origins(self):
        self.assertTrue(is_head(TREE))
        self.assertEqual(histories(TREE), HISTORIES)

    def test_a_long_row_of_origins(self):
        names = [("n00", 1, "ann", "", tag(1))]
        for number in range(1, 12):
            names.append((f"s{number:02}", 2, f"n{number - 1:02}", number, tag(1)))
            names.append((f"n{number:02}", 1, "ann", f"s{number:02}", tag(1)))
        self.assertTrue(is_head(head_with(*names)))
        self.assertEqual(history_in(head_with(*names), "n11"), [f"s{number:02}" for number in range(1, 12)])

    def test_what_is_no_stem(self):
        for name in ("m1", "ann", "x", ""):
            with self.assertRaises(NoName) as caught:
                history_in(TREE, name)
            self.assertEqual(caught.exception.name, name)

    def test_each_time_a_new_list(self):
        history_in(TREE, "side").append("x")
        history_in(TREE, "main").clear()
        self.assertEqual(histories(TREE), HISTORIES)


class GraftedTest(unittest.TestCase):
    def origins(self, head):
        return {named[0]: named[3] for named in head[2] if named[1] == 1}

    def owners(self, head):
        return {named[0]: named[2] for named in head[2] if named[1] == 2}

    def same(self, ahead, behind):
        self.assertTrue(is_head(behind))
        self.assertEqual(behind[:2], ahead[:2])
        self.assertEqual(histories(behind), histories(ahead))
        self.assertEqual(reads(behind), reads(ahead))

    def test_side_in_the_place_of_main(self):
        head = grafted(TREE, "side")
        self.same(TREE, head)
        self.assertEqual(self.owners(head), {"m1": "side", "m2": "side", "m3": "main", "s1": "side", "s2": "side",
                                             "e1": "early"})
        self.assertEqual(self.origins(head), {"main": "m2", "side": "", "leaf": "s1", "early": "m1"})

    def test_an_origin_that_has_one_itself(self):
        head = grafted(TREE, "leaf")
        self.same(TREE, head)
        self.assertEqual(self.owners(head), {"m1": "main", "m2": "main", "m3": "main", "s1": "leaf", "s2": "side",
                                             "e1": "early"})
        self.assertEqual(self.origins(head), {"main": "", "side": "s1", "leaf": "m2", "early": "m1"})

    def test_of_the_first_seal(self):
        head = grafted(TREE, "early")
        self.same(TREE, head)
        self.assertEqual(self.owners(head), {"m1": "early", "m2": "main", "m3": "main", "s1": "side", "s2": "side",
                                             "e1": "early"})
        self.assertEqual(self.origins(head), {"main": "m1", "side": "m2", "leaf": "s1", "early": ""})

    def test_of_the_last_seal(self):
        head = head_with(("a", 1, "ann", "", tag(1)), ("s", 2, "a", 3, tag(1)), ("b", 1, "bob", "s", tag(2)))
        self.assertEqual(grafted(head, "b"), head_with(("a", 1, "ann", "s", tag(1)), ("b", 1, "bob", "", tag(2)),
                                                       ("s", 2, "b", 3, tag(1))))

    def test_there_and_back(self):
        self.assertEqual(grafted(grafted(TREE, "side"), "main"), TREE)
        self.assertEqual(grafted(grafted(TREE, "leaf"), "side"), TREE)

    def test_many_grafts(self):
        for seed in range(20):
            chance = random.Random(seed)
            head = TREE
            for turn in range(30):
                able = [stem for stem in stems(head) if self.origins(head)[stem] != ""]
                anew = grafted(head, chance.choice(able))
                self.same(TREE, anew)
                head = anew


class HouseTest(unittest.TestCase):
    """Histories of a house's stems, grafted by its deeds."""

    def setUp(self):
        self.boards, self.house = new_house(
            3, ("keeper", "ann", MOST), ("keeper", "bob", MOST), ("stem", "main", "ann"), ("write", "main", "f", "one"),
            ("seal", "main", "z1"), ("write", "main", "f", "two"), ("seal", "main", "m2"), ("grow", "side", "m2", "bob"),
            ("write", "side", "g", "three"), ("seal", "side", "a1"), ("seal", "main", "b3"), ("seal", "side", "s2"),
            ("grow", "leaf", "a1", "ann"), ("seal", "leaf", "l1"), ("grow", "early", "z1", "bob"))
        self.due = {"main": ["z1", "m2", "b3"], "side": ["z1", "m2", "a1", "s2"], "leaf": ["z1", "m2", "a1", "l1"],
                    "early": ["z1"]}

    def told(self):
        return ({stem: history_in(self.house.head(), stem) for stem in self.due},
                {named[0]: tree_of(self.house, named[0]) for named in self.house.head()[2]}, reads(self.house.head()))

    def test_histories(self):
        self.assertEqual(self.told()[0], self.due)

    def test_grafted_all_is_as_it_was(self):
        ahead = self.told()
        for stem in ("side", "main", "leaf", "side", "early", "main", "leaf", "early"):
            if [named for named in self.house.head()[2] if named[0] == stem][0][3] != "":
                due = grafted(self.house.head(), stem)
                self.house.graft(stem)
                self.assertEqual(self.house.head()[1:], due[1:])
                self.assertEqual(self.told(), ahead)

    def test_what_back_brings_and_what_may_be_dropped(self):
        self.house.graft("side")
        self.house.drop("b3")
        self.assertEqual(tree_of(self.house, "main"), {"f": "two"})
        with self.assertRaises(Bare):
            self.house.back("main")
        with self.assertRaises(Grown) as caught:
            self.house.drop("side")
        # z1, m2, a1: origins of early, main and leaf
        self.assertEqual(caught.exception.name, "a1")
        self.house.drop("main")
        self.assertEqual(history_in(self.house.head(), "side"), self.due["side"])

    def test_dropped_seals_are_gone_from_histories(self):
        self.house.drop("s2")
        self.house.drop("early")
        self.house.drop("z1")
        self.assertEqual(history_in(self.house.head(), "leaf"), ["m2", "a1", "l1"])
        self.assertEqual(history_in(self.house.head(), "side"), ["m2", "a1"])


if __name__ == "__main__":
    unittest.main()
