import random
import unittest

from stemshelf.errors import NoName
from stemshelf.heads import is_head
from stemshelf.histories import grafted, history_in

KEEPERS = (("ann", 5), ("bob", 6))


def tag(number):
    return (number, 0, 5)


def head_with(*names):
    return (9, KEEPERS, tuple(sorted(names)))


# main: m1 m2 m3; side grew from m2: s1 s2; leaf from s1: no seals; early from m1: e1
TREE = head_with(
    ("main", 1, "ann", "", tag(1)), ("side", 1, "bob", "m2", tag(2)), ("leaf", 1, "ann", "s1", tag(3)),
    ("early", 1, "bob", "m1", tag(4)),
    ("m1", 2, "main", 3, tag(11)), ("m2", 2, "main", 5, tag(12)), ("m3", 2, "main", 20, tag(13)),
    ("s1", 2, "side", 7, tag(21)), ("s2", 2, "side", 30, tag(22)), ("e1", 2, "early", 6, tag(41)),
)
HISTORIES = {
    "main": ["m1", "m2", "m3"], "side": ["m1", "m2", "s1", "s2"], "leaf": ["m1", "m2", "s1"], "early": ["m1", "e1"],
}


def stems(head):
    return [named[0] for named in head[2] if named[1] == 1]


def histories(head):
    return {stem: history_in(head, stem) for stem in stems(head)}


def reads(head):
    """Of each name what stays as it was: its kind, its tag, a stem's keeper, a seal's turn."""
    return [(name, kind, own, other if kind == 1 else turn) for name, kind, other, turn, own in head[2]]


class HistoryTest(unittest.TestCase):
    def test_a_stem_of_its_own(self):
        self.assertEqual(history_in(head_with(("a", 1, "ann", "", tag(1))), "a"), [])
        self.assertEqual(history_in(TREE, "main"), ["m1", "m2", "m3"])

    def test_by_turns_not_by_names(self):
        head = head_with(("a", 1, "ann", "", tag(1)), ("x", 2, "a", 8, tag(1)), ("y", 2, "a", 2, tag(1)),
                         ("z", 2, "a", 5, tag(1)))
        self.assertEqual(history_in(head, "a"), ["y", "z", "x"])

    def test_with_origins(self):
        self.assertTrue(is_head(TREE))
        self.assertEqual(histories(TREE), HISTORIES)

    def test_a_long_row_of_origins(self):
        names = [("n00", 1, "ann", "", tag(1))]
        for number in range(1, 12):
            names.append((f"s{number:02}", 2, f"n{number - 1:02}", number, tag(1)))
            names.append((f"n{number:02}", 1, "ann", f"s{number:02}", tag(1)))
        self.assertTrue(is_head(head_with(*names)))
        self.assertEqual(history_in(head_with(*names), "n11"), [f"s{number:02}" for number in range(1, 12)])

    def test_what_is_no_stem(self):
        for name in ("m1", "ann", "x", ""):
            with self.assertRaises(NoName) as caught:
                history_in(TREE, name)
            self.assertEqual(caught.exception.name, name)

    def test_each_time_a_new_list(self):
        history_in(TREE, "side").append("x")
        history_in(TREE, "main").clear()
        self.assertEqual(histories(TREE), HISTORIES)


class GraftedTest(unittest.TestCase):
    def origins(self, head):
        return {named[0]: named[3] for named in head[2] if named[1] == 1}

    def owners(self, head):
        return {named[0]: named[2] for named in head[2] if named[1] == 2}

    def same(self, ahead, behind):
        self.assertTrue(is_head(behind))
        self.assertEqual(behind[:2], ahead[:2])
        self.assertEqual(histories(behind), histories(ahead))
        self.assertEqual(reads(behind), reads(ahead))

    def test_side_in_the_place_of_main(self):
        head = grafted(TREE, "side")
        self.same(TREE, head)
        self.assertEqual(self.owners(head), {"m1": "side", "m2": "side", "m3": "main", "s1": "side", "s2": "side",
                                             "e1": "early"})
        self.assertEqual(self.origins(head), {"main": "m2", "side": "", "leaf": "s1", "early": "m1"})

    def test_an_origin_that_has_one_itself(self):
        head = grafted(TREE, "leaf")
        self.same(TREE, head)
        self.assertEqual(self.owners(head), {"m1": "main", "m2": "main", "m3": "main", "s1": "leaf", "s2": "side",
                                             "e1": "early"})
        self.assertEqual(self.origins(head), {"main": "", "side": "s1", "leaf": "m2", "early": "m1"})

    def test_of_the_first_seal(self):
        head = grafted(TREE, "early")
        self.same(TREE, head)
        self.assertEqual(self.owners(head), {"m1": "early", "m2": "main", "m3": "main", "s1": "side", "s2": "side",
                                             "e1": "early"})
        self.assertEqual(self.origins(head), {"main": "m1", "side": "m2", "leaf": "s1", "early": ""})

    def test_of_the_last_seal(self):
        head = head_with(("a", 1, "ann", "", tag(1)), ("s", 2, "a", 3, tag(1)), ("b", 1, "bob", "s", tag(2)))
        self.assertEqual(grafted(head, "b"), head_with(("a", 1, "ann", "s", tag(1)), ("b", 1, "bob", "", tag(2)),
                                                       ("s", 2, "b", 3, tag(1))))

    def test_there_and_back(self):
        self.assertEqual(grafted(grafted(TREE, "side"), "main"), TREE)
        self.assertEqual(grafted(grafted(TREE, "leaf"), "side"), TREE)

    def test_many_grafts(self):
        for seed in range(20):
            chance = random.Random(seed)
            head = TREE
            for turn in range(30):
                able = [stem for stem in stems(head) if self.origins(head)[stem] != ""]
                anew = grafted(head, chance.choice(able))
                self.same(TREE, anew)
                head = anew


if __name__ == "__main__":
    unittest.main()
