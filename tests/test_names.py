import unittest

from stemshelf.errors import NoName, TooMany, Twice
from stemshelf.heads import is_head
from stemshelf.names import (check_new_name, check_room, keeper_called, named_so, one_older, seal_called, seals_of, stem_called,
                             stems_in, tags_kept, with_keeper, with_named, without_named)

ONE, TWO, THREE, FOUR = [(number, 0, 5) for number in (1, 2, 3, 4)]
A = ("a", 1, "ann", "", ONE)
B = ("b", 1, "bob", "t", TWO)
C = ("c", 1, "ann", "", FOUR)
S = ("s", 2, "a", 7, ONE)
T = ("t", 2, "a", 3, THREE)
U = ("u", 2, "b", 9, TWO)
HEAD = (9, (("ann", 5), ("bob", 6)), (A, B, C, S, T, U))


class NamesTest(unittest.TestCase):
    def setUp(self):
        self.assertTrue(is_head(HEAD))

    def refused(self, name, deed):
        with self.subTest(name):
            with self.assertRaises(NoName) as caught:
                deed()
            self.assertEqual(caught.exception.name, name)


class StandingTest(NamesTest):
    def test_keepers(self):
        self.assertEqual(keeper_called(HEAD, "ann"), ("ann", 5))
        self.assertEqual(keeper_called(HEAD, "bob"), ("bob", 6))
        for name in ("a", "s", "cid", "an", "annn", "", "Ann"):
            self.refused(name, lambda: keeper_called(HEAD, name))

    def test_stems_and_seals(self):
        for named in (A, B, C, S, T, U):
            self.assertEqual(named_so(HEAD, named[0]), named)
        for name in ("ann", "bob", "x", "", "A", "aa"):
            self.refused(name, lambda: named_so(HEAD, name))

    def test_stems_alone(self):
        for stem in (A, B, C):
            self.assertEqual(stem_called(HEAD, stem[0]), stem)
        for name in ("s", "t", "u", "ann", "x", ""):
            self.refused(name, lambda: stem_called(HEAD, name))
        self.assertEqual(stems_in(HEAD), [A, B, C])

    def test_seals_alone(self):
        for seal in (S, T, U):
            self.assertEqual(seal_called(HEAD, seal[0]), seal)
        for name in ("a", "b", "c", "bob", "x", ""):
            self.refused(name, lambda: seal_called(HEAD, name))

    def test_seals_of_a_stem_by_turns(self):
        self.assertEqual(seals_of(HEAD, "a"), [T, S])
        self.assertEqual(seals_of(HEAD, "b"), [U])
        self.assertEqual(seals_of(HEAD, "c"), [])

    def test_stems_of_a_keeper_that_is_called_like_a_stem_are_no_seals_of_it(self):
        own = ("a", 1, "a", "", ONE)
        head = (9, (("a", 5),), (own, ("b", 1, "a", "", TWO), ("s", 2, "a", 3, THREE)))
        self.assertTrue(is_head(head))
        self.assertEqual(seals_of(head, "a"), [("s", 2, "a", 3, THREE)])
        self.assertEqual(seals_of(head, "b"), [])
        self.assertEqual(stems_in(head), [own, ("b", 1, "a", "", TWO)])
        self.assertEqual(sorted(tags_kept(head, "a")), [ONE, TWO, THREE])

    def test_tags_kept(self):
        self.assertEqual(sorted(tags_kept(HEAD, "ann")), sorted([ONE, ONE, THREE, FOUR]))
        self.assertEqual(sorted(tags_kept(HEAD, "bob")), [TWO, TWO])
        self.assertEqual(tags_kept(HEAD, "cid"), [])

    def test_nothing_stands_in_a_new_head(self):
        head = (0, (), ())
        self.refused("a", lambda: named_so(head, "a"))
        self.refused("ann", lambda: keeper_called(head, "ann"))
        self.assertEqual((stems_in(head), seals_of(head, "a"), tags_kept(head, "ann")), ([], [], []))


class NewTest(NamesTest):
    def test_new_names(self):
        for name in ("x", "aa", "ann", "bob", "0", "abcdefgh"):
            check_new_name(HEAD, name)

    def test_what_is_no_name(self):
        for name in ("", "A", "a b", "abcdefghi", "a/b", "."):
            self.refused(name, lambda: check_new_name(HEAD, name))

    def test_twice(self):
        for name in ("a", "b", "c", "s", "t", "u"):
            with self.assertRaises(Twice) as caught:
                check_new_name(HEAD, name)
            self.assertEqual(caught.exception.name, name)

    def test_room(self):
        stems = tuple((f"n{number}", 1, "ann", "", ONE) for number in range(10, 34))
        check_room(HEAD)
        check_room((9, HEAD[1], stems[:23]))
        with self.assertRaises(TooMany):
            check_room((9, HEAD[1], stems))


class OtherHeadsTest(NamesTest):
    def test_keepers(self):
        self.assertEqual(with_keeper(HEAD, "ann", 7), (9, (("ann", 7), ("bob", 6)), HEAD[2]))
        self.assertEqual(with_keeper(HEAD, "ab", 0)[1], (("ab", 0), ("ann", 5), ("bob", 6)))
        self.assertEqual(with_keeper((0, (), ()), "z", 3), (0, (("z", 3),), ()))

    def test_eight_and_nine_keepers(self):
        head = (0, tuple((f"k{number}", 1) for number in range(7)), ())
        head = with_keeper(head, "a", 1)
        self.assertEqual(len(head[1]), 8)
        self.assertEqual(with_keeper(head, "k3", 99)[1][4], ("k3", 99))
        with self.assertRaises(TooMany):
            with_keeper(head, "b", 1)

    def test_stems_and_seals(self):
        self.assertEqual(with_named(HEAD, ("b", 1, "bob", "t", FOUR))[2][1], ("b", 1, "bob", "t", FOUR))
        more = ("aa", 2, "a", 4, ONE)
        self.assertEqual(with_named(HEAD, more), (9, HEAD[1], (A, more, B, C, S, T, U)))
        self.assertEqual(with_named((0, HEAD[1], ()), A), (0, HEAD[1], (A,)))

    def test_without(self):
        self.assertEqual(without_named(HEAD, ["c"]), (9, HEAD[1], (A, B, S, T, U)))
        self.assertEqual(without_named(HEAD, ["a", "u", "x"]), (9, HEAD[1], (B, C, S, T)))
        self.assertEqual(without_named(HEAD, []), HEAD)

    def test_one_older(self):
        self.assertEqual(one_older(HEAD), (10,) + HEAD[1:])

    def test_names_may_stand_for_other_trees_than_tags(self):
        head = (0, (("ann", 1),), (("a", 1, "ann", "", {}), ("s", 2, "a", 1, {"x": ""})))
        head = with_named(head, ("b", 1, "ann", "s", {"y": ""}))
        self.assertEqual([named[0] for named in head[2]], ["a", "b", "s"])
        self.assertEqual(seals_of(head, "a"), [("s", 2, "a", 1, {"x": ""})])

    def test_told_lists_are_the_askers_own(self):
        for told in (stems_in, lambda head: seals_of(head, "a"), lambda head: tags_kept(head, "ann")):
            due = told(HEAD)
            told(HEAD).clear()
            self.assertEqual(told(HEAD), due)


if __name__ == "__main__":
    unittest.main()
