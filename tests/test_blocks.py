import unittest

from stemshelf.blocks import is_block, is_name, is_tag, size_of, sum_of, tags_in

TAG = (1, 0, 0)
WHATEVER = (0, 1, -1, True, False, None, "", "a", "%", (), [], (0,), [0], (None,), ("a",), ((),), ([],), (0, None))


def entry(name, kind=1, tag=TAG):
    return (name, kind, tag)


class KindTest(unittest.TestCase):
    def check(self, asked, due, things):
        for thing in things:
            with self.subTest(repr(thing)[:80]):
                self.assertIs(asked(thing), due)


class NameTest(KindTest):
    def test_names(self):
        self.check(is_name, True, ("a", "z", "0", "9", "oak7", "abcdefgh", "00000000"))

    def test_what_is_none(self):
        self.check(is_name, False, ("", "abcdefghi", "A", "Oak", "oaK", "a b", "a/b", "-", "a_b", "a.", "%", "a\n"))
        self.check(is_name, False, ("\xe4", "\u0660", "\xb2", "{", "`", ":"))
        self.check(is_name, False, (0, 1, True, None, (), [], ["a"], ("a",)))


class TagTest(KindTest):
    def test_bounds(self):
        self.check(is_tag, True, (TAG, (5, 6, 7), (1, 0, 996), (999999, 999999999, 996)))
        self.check(is_tag, False, ((0, 0, 0), (-1, 0, 0), (1000000, 0, 0)))
        self.check(is_tag, False, ((1, -1, 0), (1, 1000000000, 0)))
        self.check(is_tag, False, ((1, 0, -1), (1, 0, 997)))

    def test_truths_in_the_place_of_numbers(self):
        self.check(is_tag, False, ((True, 0, 0), (1, False, 0), (1, 0, False), (1, True, 0), (1, 0, True)))

    def test_other_forms(self):
        self.check(is_tag, False, WHATEVER)
        self.check(is_tag, False, ((1, 0), (1, 0, 0, 0), [1, 0, 0], ("1", 0, 0), (1, None, 0), (1, 0, ()), "100"))


class BlockTest(KindTest):
    def test_whatever(self):
        self.check(is_block, False, WHATEVER)
        self.check(is_block, False, ((3, "a"), (-1, "a"), ("0", "a"), (None, "a"), ((), "a"), [0, "a"], (3, ())))

    def test_pieces(self):
        self.check(is_block, True, ((0, "a"), (0, " "), (0, "~"), (0, "abcdefgh")))
        self.check(is_block, False, ((0, ""), (0, "abcdefghi"), (0, "%"), (0, "a\n"), (0, "\xe4")))
        self.check(is_block, False, ((0,), (0, "a", "b"), (0, "a", ()), (0, 1), (0, ["a"]), (0, ("a",)), (0, None)))
        self.check(is_block, False, ((False, "a"),))

    def test_levels_of_rows(self):
        self.check(is_block, True, ((1, 1, (TAG,)), (1, 2, (TAG,)), (1, 9, (TAG,))))
        self.check(is_block, False, ((1, 0, (TAG,)), (1, 10, (TAG,)), (1, -1, (TAG,)), (1, True, (TAG,))))
        self.check(is_block, False, ((True, 1, (TAG,)), (1, None, (TAG,)), (1, "1", (TAG,)), (1, (1,), (TAG,))))

    def test_rows_of_no_tags(self):
        self.check(is_block, True, ((1, 1, ()),))
        self.check(is_block, False, ((1, 2, ()), (1, 9, ()), (1, 0, ())))

    def test_tags_of_rows(self):
        self.check(is_block, True, ((1, 1, (TAG,) * 8), (1, 3, (TAG, (2, 0, 5)))))
        self.check(is_block, False, ((1, 1, (TAG,) * 9), (1, 3, (TAG,) * 9)))
        self.check(is_block, False, ((1, 1, [TAG]), (1, 1, ([1, 0, 0],)), (1, 1, []), (1, 1, TAG), (1, 1, "")))
        for place in range(3):
            tags = [TAG] * 3
            tags[place] = (0, 0, 0)
            self.check(is_block, False, ((1, 1, tuple(tags)),))

    def test_other_forms_of_rows(self):
        self.check(is_block, False, ((1,), (1, 1), (1, 1, (), ()), (1, (TAG,)), [1, 1, ()]))

    def test_folders(self):
        names = [f"n{number:02}" for number in range(17)]
        self.check(is_block, True, ((2, ()), (2, (entry("a"),)), (2, (entry("a", 2), entry("b", 1)))))
        self.check(is_block, True, ((2, tuple(entry(name) for name in names[:16])),))
        self.check(is_block, False, ((2, tuple(entry(name) for name in names)),))

    def test_names_of_folders_rise(self):
        self.check(is_block, True, ((2, (entry("1"), entry("a"), entry("aa"), entry("b"))),))
        self.check(is_block, False, ((2, (entry("b"), entry("a"))), (2, (entry("a"), entry("a")))))
        self.check(is_block, False, ((2, (entry("a", 1), entry("a", 2))), (2, (entry("aa"), entry("a")))))
        self.check(is_block, False, ((2, (entry("a"), entry("c"), entry("b"))), (2, (entry("a"), entry("1")))))

    def test_kinds_of_entries(self):
        for kind in (0, 3, -1, True, False, None, "1"):
            self.check(is_block, False, ((2, (entry("a", kind),)),))

    def test_wrong_entries(self):
        for wrong in (entry(""), entry("abcdefghi"), entry("A"), entry(1), entry("b", 1, (0, 0, 0)), entry("b", 1, None),
                      ("b", 1), ("b", 1, TAG, TAG), ["b", 1, TAG], entry("b", 1, [1, 0, 0]), None, "b1t", 5, ()):
            self.check(is_block, False, ((2, (wrong,)), (2, (entry("a"), wrong)), (2, (entry("a"), wrong, entry("c")))))

    def test_other_forms_of_folders(self):
        self.check(is_block, False, ((2,), (2, (), ()), (2, []), (2, [entry("a")]), (2, entry("a")), (2, None), (2, "")))
        self.check(is_block, False, ([2, ()],))


class SumTest(unittest.TestCase):
    def test_of_pieces(self):
        self.assertEqual(sum_of((0, " ")), 31 * 1 + 0 + 1)
        self.assertEqual(sum_of((0, "&")), 37)
        self.assertEqual(sum_of((0, "& ")), 31 * 37 + 0 + 1 - 997)
        self.assertEqual(sum_of((0, " @")), sum_of((0, "! ")))

    def test_of_rows(self):
        self.assertEqual(sum_of((1, 1, ())), 31 * 2 + 1 + 1)
        self.assertEqual(sum_of((1, 2, ((5, 9, 10),))), 32)
        self.assertEqual(sum_of((1, 2, ((5, 9, 10), (1, 1, 0)))), 31 * 32 + 0 + 1)

    def test_of_folders(self):
        self.assertEqual(sum_of((2, ())), 3)
        # 3; 31 * 3 + 64 + 1 = 158; 31 * 158 + 1 + 1 = 4900, rest 912; 31 * 912 + 7 + 1 = 28280, rest 364
        self.assertEqual(sum_of((2, (("a", 1, (4, 0, 7)),))), 364)
        # 31 * 158 + 2 + 1 = 4901, rest 913; 31 * 913 + 7 + 1 = 28311, rest 395
        self.assertEqual(sum_of((2, (("a", 2, (4, 0, 7)),))), 395)
        # from 364: 31 * 364 + 65 + 1 = 11350, rest 383; 31 * 383 + 15 + 1 = 11889, rest 922;
        # 31 * 922 + 2 + 1 = 28585, rest 669; 31 * 669 + 996 + 1 = 21736, rest 799
        self.assertEqual(sum_of((2, (("a", 1, (4, 0, 7)), ("b0", 2, (9, 9, 996))))), 799)

    def test_numbers_and_births_of_tags_play_no_part(self):
        for one, other in (((1, 1, ((1, 0, 5), (2, 0, 6))), (1, 1, ((77, 8, 5), (999999, 999999999, 6)))),
                           ((2, (("a", 1, (1, 0, 5)),)), (2, (("a", 1, (88, 9, 5)),)))):
            self.assertEqual(sum_of(one), sum_of(other))
            self.assertEqual(size_of(one), size_of(other))

    def test_sums_levels_names_and_kinds_play_a_part(self):
        self.assertNotEqual(sum_of((1, 1, ((1, 0, 5),))), sum_of((1, 1, ((1, 0, 6),))))
        self.assertNotEqual(sum_of((1, 1, ((1, 0, 5),))), sum_of((1, 2, ((1, 0, 5),))))
        self.assertNotEqual(sum_of((2, (entry("a"),))), sum_of((2, (entry("b"),))))


class SizeTest(unittest.TestCase):
    def test_of_each_kind(self):
        self.assertEqual(size_of((0, "&")), 7)
        self.assertEqual(size_of((0, "abcdefgh")), 14)
        self.assertEqual(size_of((1, 1, ())), 8)
        self.assertEqual(size_of((1, 9, (TAG,))), 16)
        self.assertEqual(size_of((1, 1, (TAG,) * 8)), 72)
        self.assertEqual(size_of((2, ())), 6)
        self.assertEqual(size_of((2, (entry("a"),))), 21)
        self.assertEqual(size_of((2, (entry("a"), entry("bcd", 2)))), 38)


class TagsTest(unittest.TestCase):
    def test_of_each_kind(self):
        other = (2, 3, 4)
        self.assertEqual(tags_in((0, "abc")), [])
        self.assertEqual(tags_in((1, 1, ())), [])
        self.assertEqual(tags_in((1, 1, (other, TAG))), [other, TAG])
        self.assertEqual(tags_in((2, ())), [])
        self.assertEqual(tags_in((2, (entry("a", 1, other), entry("b", 2, TAG)))), [other, TAG])

    def test_as_often_as_they_stand_there(self):
        other = (2, 3, 4)
        self.assertEqual(tags_in((1, 2, (TAG, other, TAG, TAG))), [TAG, other, TAG, TAG])
        self.assertEqual(tags_in((2, (entry("a"), entry("b", 1, other), entry("c", 2)))), [TAG, other, TAG])

    def test_each_time_a_new_list(self):
        for block, due in (((1, 1, (TAG,)), [TAG]), ((2, (entry("a"),)), [TAG]), ((0, "a"), []), ((1, 1, ()), [])):
            told = tags_in(block)
            told.append(5)
            self.assertEqual(tags_in(block), due)


if __name__ == "__main__":
    unittest.main()
