"""The looker: accounts of houses and others that are so are let by; broken in one place, none is."""

import random
import unittest
from fractions import Fraction

from helper import STORY, by_chance, do, file, folder, in_folder, made, new_house, of_stem, piece, row, stem
from stemshelf.accounts import account_of, content_by, entry_by
from stemshelf.blocks import size_of, sum_of
from stemshelf.boards import Boards
from stemshelf.house import House
from stemshelf.looker import lets_by
from stemshelf.opening import opened

WORDS = ("oak", "elm", "ash", "fir", "yew", "box", "may", "sloe", "pine", "larch", "beech", "alder", "hazel", "holly")


def renumbered(account, new):
    """The account with other numbers of cells."""
    def tag_of(tag):
        return (new[tag[0]], tag[1], tag[2])

    def block_of(block):
        if block[0] == 0:
            return block
        if block[0] == 1:
            return (1, block[1], tuple(tag_of(tag) for tag in block[2]))
        return (2, tuple((name, kind, tag_of(tag)) for name, kind, tag in block[1]))

    names = tuple(named[:4] + (tag_of(named[4]),) for named in account[2])
    cells = tuple(sorted((new[cell[0]], cell[1], block_of(cell[2])) + cell[3:] for cell in account[3]))
    return account[:2] + (names, cells, account[4])


def story():
    return account_of(new_house(3, *STORY)[1])


def places_in(thing, above=()):
    """The places of all parts of nested tuples, as tuples of indexes, the whole too."""
    found = [above]
    if isinstance(thing, tuple):
        for place, part in enumerate(thing):
            found.extend(places_in(part, above + (place,)))
    return found


def part_at(thing, place):
    for step in place:
        thing = thing[step]
    return thing


def with_part(thing, place, part):
    if place == ():
        return part
    step = place[0]
    return thing[:step] + (with_part(thing[step], place[1:], part),) + thing[step + 1:]


def with_cell(account, place, at, part):
    return with_part(account, (3, place, at), part)


def is_same(one, other):
    return repr(one) == repr(other)


class LetByTest(unittest.TestCase):
    def test_a_new_house(self):
        self.assertIs(lets_by((0, (), (), (), ())), True)
        self.assertIs(lets_by(account_of(House(Boards(2)))), True)

    def test_behind_each_deed(self):
        for many in (2, 3, 4):
            boards, house = new_house(many)
            for deed in STORY:
                do(house, *deed)
                self.assertIs(lets_by(account_of(house)), True)
            self.assertTrue(lets_by(account_of(opened(boards))))

    def test_behind_many_deeds(self):
        for seed in range(4):
            boards, house = new_house(2 + seed % 3)
            for deed, plain in by_chance(seed + 40, 150):
                do(house, *deed)
                self.assertTrue(lets_by(account_of(house)))

    def test_other_numbers_of_cells(self):
        account = story()
        numbers = [cell[0] for cell in account[3]]
        for seed in range(5):
            new = random.Random(seed).sample(range(1, 1000000), len(numbers))
            other = renumbered(account, dict(zip(numbers, new)))
            self.assertNotEqual(other, account)
            self.assertTrue(lets_by(other))

    def test_the_greatest_number(self):
        root = folder()
        self.assertTrue(lets_by(made([stem(root)], numbers=[999999], birth=999999999)))

    def test_one_content_cut_in_two_ways(self):
        last = piece("d")
        account = of_stem(in_folder(file("ab", "cd"), row(1, piece("abc"), last), file("abcd"),
                                    row(2, file("a", "b"), row(1, piece("c"), last))))
        self.assertTrue(lets_by(account))
        tags = [entry_by(account, "main", f"n{place}")[1] for place in range(4)]
        self.assertEqual([content_by(account, tag) for tag in tags], ["abcd"] * 4)
        self.assertEqual(len(set(tags)), 4)

    def test_rows_that_no_house_would_lay(self):
        empty = row(1)
        for top in (empty, row(2, empty), row(3, row(2, empty, empty)), row(2, file("a"))):
            self.assertTrue(lets_by(of_stem(in_folder(top))))
        top = file("a")
        for level in range(2, 10):
            top = row(level, top)
        self.assertTrue(lets_by(of_stem(in_folder(top))))

    def test_a_row_that_is_a_top_and_beneath_another(self):
        inner = file("ab", "c")
        self.assertTrue(lets_by(of_stem(in_folder(inner, row(2, inner, inner)))))

    def test_births_ages_bounds_and_turns_are_free(self):
        account = story()
        self.assertTrue(lets_by((0,) + account[1:]))
        self.assertTrue(lets_by((999999999,) + account[1:]))
        for place, keeper in enumerate(account[1]):
            for bound in (0, 999999999):
                self.assertTrue(lets_by(with_part(account, (1, place, 1), bound)))

    def test_no_keepers_but_those_of_a_head(self):
        self.assertTrue(lets_by((5, (("ann", 3),), (), (), (("ann", (0, 1)),))))

    def test_holders_and_shares_of_several(self):
        shared = file("abc", "d")
        names = [stem(in_folder(shared)), stem(folder(("x", 1, shared)), "other", "bob"),
                 ("s", 2, "other", 3, folder()), stem(folder(("y", 1, shared)), "third", "cid")]
        account = made(names, keepers=(("ann", 1), ("bob", 2), ("cid", 3), ("dan", 4)))
        self.assertTrue(lets_by(account))
        self.assertEqual(account[4][3], ("dan", (0, 1)))
        self.assertGreater(account[4][0][1][1], 1)

    def test_sixty_entries_eight_deep_and_400_signs(self):
        some = file("a")
        fourteen = folder(*[(f"n{place:02}", 1, some) for place in range(14)])
        self.assertTrue(lets_by(of_stem(folder(*[(name, 2, fourteen) for name in "abcd"]))))
        deep = folder()
        for step in range(8):
            deep = folder(("a", 2, deep))
        self.assertTrue(lets_by(of_stem(deep)))
        eight = row(1, *[piece("abcdefgh")] * 8)
        self.assertTrue(lets_by(of_stem(in_folder(row(2, *[eight] * 6, row(1, piece("x" * 8), piece("y" * 8)))))))


class TooMuchTest(unittest.TestCase):
    """All of these are at one with themselves, but for a tree or a content beyond bounds."""

    def refused(self, root):
        self.assertIs(lets_by(of_stem(root)), False)

    def test_sixty_one_entries(self):
        some = file("a")
        fourteen = folder(*[(f"n{place:02}", 1, some) for place in range(14)])
        four = [(name, 2, fourteen) for name in "abcd"]
        self.assertTrue(lets_by(of_stem(folder(*four))))
        self.refused(folder(*four, ("e", 1, some)))
        self.refused(folder(("x", 2, folder(*four))))

    def test_entries_beyond_measure(self):
        inner = folder(*[(f"n{place:02}", 1, file("a")) for place in range(1)])
        for step in range(40):
            inner = folder(*[(f"n{place:02}", 2, inner) for place in range(16)])
        self.refused(inner)

    def test_of_a_seal_too(self):
        some = file("a")
        fourteen = folder(*[(f"n{place:02}", 1, some) for place in range(14)])
        wide = folder(*[(name, 2, fourteen) for name in "abcde"])
        self.assertFalse(lets_by(made([stem(folder()), ("s", 2, "main", 3, wide)])))

    def test_nine_deep(self):
        deep = folder()
        for step in range(9):
            deep = folder(("a", 2, deep))
        self.refused(deep)
        deep = folder(("a", 1, file("x")))
        for step in range(7):
            deep = folder(("a", 2, deep))
        self.assertTrue(lets_by(of_stem(deep)))
        self.refused(folder(("a", 2, deep)))

    def test_401_signs(self):
        eight = row(1, *[piece("abcdefgh")] * 8)
        two = [piece("x" * 8), piece("y" * 8)]
        self.refused(in_folder(row(2, *[eight] * 6, row(1, *two, piece("z")))))
        self.refused(in_folder(file("a"), row(3, row(2, *[eight] * 7))))
        self.refused(folder(("a", 2, in_folder(row(3, row(2, *[eight] * 6, row(1, *two)), row(2, file("z")))))))

    def test_signs_beyond_measure(self):
        top = row(1, *[piece("abcdefgh")] * 8)
        for level in range(2, 10):
            top = row(level, *[top] * 8)
        self.refused(in_folder(top))

    def test_a_seventeenth_entry_and_a_ninth_tag(self):
        some = file("a")
        self.refused(folder(*[(f"n{place:02}", 1, some) for place in range(17)]))
        self.refused(in_folder(row(1, *[piece("a")] * 9)))


class KindsTest(unittest.TestCase):
    """Tags of the wrong kind or level, all else at one."""

    def refused(self, root):
        self.assertIs(lets_by(of_stem(root)), False)

    def test_a_names_tag_is_a_folders(self):
        self.refused(file("a"))
        self.refused(piece("a"))
        self.assertFalse(lets_by(made([stem(folder(("a", 1, file("b")))), ("s", 2, "main", 3, file("c"))])))

    def test_a_files_tag_is_a_rows(self):
        self.refused(folder(("a", 1, folder())))
        self.refused(folder(("a", 1, piece("a"))))

    def test_a_folders_tag_is_a_folders(self):
        self.refused(folder(("a", 2, file("a"))))
        self.refused(folder(("a", 2, piece("a"))))

    def test_rows_of_the_first_level(self):
        self.refused(in_folder(row(1, file("a"))))
        self.refused(in_folder(row(1, piece("b"), file("a"))))
        self.refused(in_folder(row(1, folder())))

    def test_rows_of_higher_levels(self):
        self.refused(in_folder(row(2, piece("a"))))
        self.refused(in_folder(row(2, row(2, file("a")))))
        self.refused(in_folder(row(3, file("a"))))
        self.refused(in_folder(row(3, row(2, file("a")), file("b"))))
        self.refused(in_folder(row(2, folder())))
        self.refused(in_folder(row(3, row(4, row(3, row(2, file("a")))))))

    def test_blocks_that_are_none(self):
        self.refused(in_folder(row(2)))
        self.refused(in_folder(row(10, file("a"))))
        self.refused(in_folder(row(0)))
        self.refused(in_folder(file("")))
        self.refused(in_folder(file("abcdefghi")))
        self.refused(folder(("b", 1, file("a")), ("a", 1, file("b"))))
        self.refused(folder(("a", 1, file("a")), ("a", 1, file("b"))))
        self.refused(folder(("A", 1, file("a"))))
        self.refused(folder(("a", 3, file("a"))))
        self.refused(folder(("a", 0, file("a"))))

    def test_two_blocks_alike(self):
        one, other = piece("ab"), piece("ab")
        self.refused(in_folder(row(1, one, other)))
        self.refused(in_folder(row(1, one), row(1, other, other)))
        self.refused(in_folder(row(1), row(1)))
        self.refused(folder(("a", 2, folder()), ("b", 2, folder())))
        self.assertFalse(lets_by(made([stem(folder()), stem(folder(), "other", "bob")])))

    def test_a_cell_that_no_name_reaches(self):
        for more in (piece("x"), file("x"), folder(), folder(("a", 1, file("x")))):
            account = made([stem(in_folder(file("a")))], more=[more])
            self.assertFalse(lets_by(account))
            counted = tuple(cell[:4] + (max(1, cell[4]),) + cell[5:] for cell in account[3])
            self.assertFalse(lets_by(account[:3] + (counted, account[4])))
            held = tuple(cell[:5] + (cell[5] or ("ann",),) for cell in counted)
            self.assertFalse(lets_by(account[:3] + (held, account[4])))

    def test_blocks_that_lead_back_to_themselves(self):
        # a folder that has itself as its entry, by a name with which its sum fits
        for name in [f"{one}{two}" for one in "abcdefghijklmnopqrstuvwxyz" for two in range(100)]:
            tag = (1, 0, 5)
            block = (2, ((name, 2, tag),))
            if sum_of(block) == 5:
                break
        self.assertEqual(sum_of(block), 5)
        for height in (0, 1, 2, 10):
            for count in (1, 2):
                cells = ((1, 0, block, height, count, ("ann",)),)
                names = (("main", 1, "ann", "", tag),)
                self.assertFalse(lets_by((1, (("ann", 9),), names, cells, (("ann", (size_of(block), 1)),))))
                cells = ((1, 0, block, height, count, ()),)
                self.assertFalse(lets_by((1, (), (), cells, ())))


class BrokenTest(unittest.TestCase):
    """An account that is let by, broken in one place."""

    def setUp(self):
        self.account = story()
        self.assertTrue(lets_by(self.account))

    def refused(self, account):
        self.assertIs(lets_by(account), False, account)

    def test_each_number_of_a_cell_a_name_and_a_share_changed(self):
        for place in places_in(self.account):
            part = part_at(self.account, place)
            if isinstance(part, int) and not self.is_free(place):
                for other in (part + 1, part - 1, part + 997, -part, 10 ** 30):
                    if other != part:
                        self.refused(with_part(self.account, place, other))

    def is_free(self, place):
        """The age, a bound, a turn."""
        return place[0] in (0, 1) or place[0] == 2 and place[2:] == (3,)

    def test_ages_bounds_kinds_and_turns_that_are_none(self):
        for place in places_in(self.account):
            part = part_at(self.account, place)
            if isinstance(part, int):
                for other in (-1, 1000000000, None, "1", [], (), (part,), [part]):
                    self.refused(with_part(self.account, place, other))

    def test_a_truth_in_a_whole_numbers_place(self):
        met = set()
        for place in places_in(self.account):
            part = part_at(self.account, place)
            if isinstance(part, int):
                for other in (True, False):
                    self.refused(with_part(self.account, place, other))
                    met.add((part == other, place[0]))
        self.assertLessEqual({(True, 2), (True, 3)}, met)

    def test_a_truth_in_each_place_of_a_small_account(self):
        account = made([stem(folder(("a", 1, file("a")))), ("s", 2, "main", 1, folder())], age=1, birth=1,
                       keepers=(("ann", 1), ("bob", 0)))
        self.assertTrue(lets_by(account))
        for place in places_in(account):
            part = part_at(account, place)
            if isinstance(part, int) and part in (0, 1):
                self.assertFalse(lets_by(with_part(account, place, bool(part))), place)

    def test_each_text_changed(self):
        for place in places_in(self.account):
            part = part_at(self.account, place)
            if isinstance(part, str):
                for other in (part + "x", "zz", "A", "", part[:-1], part + "\n", "\u00e9", None, 0, (), [part], list(part)):
                    if other != part and not self.is_a_fitting_name(place, other):
                        self.refused(with_part(self.account, place, other))

    def is_a_fitting_name(self, place, other):
        """An origin may be left out; and a stem or a seal that nothing else names may be called otherwise."""
        if place[0] == 2 and len(place) == 3 and place[2] == 3:
            return other == ""
        if place[0] == 2 and len(place) == 3 and place[2] == 0:
            names = [named[0] for named in self.account[2]]
            renamed = with_part(self.account, place, other)[2]
            is_rising = isinstance(other, str) and [named[0] for named in renamed] == sorted(named[0] for named in renamed)
            old = names[place[1]]
            is_named = any(old in named[2:4] for named in self.account[2])
            return is_rising and not is_named and other.isalnum() and other.islower()
        return False

    def test_a_list_in_each_tuples_place(self):
        for place in places_in(self.account):
            part = part_at(self.account, place)
            if isinstance(part, tuple):
                self.refused(with_part(self.account, place, list(part)))

    def test_each_tuple_too_short_too_long_or_in_another_order(self):
        for place in places_in(self.account):
            part = part_at(self.account, place)
            if isinstance(part, tuple):
                others = [part + (0,), part + (None,), part + ((),), (0,) + part, part + ("x",), None, 0, True, "x", []]
                if part:
                    others += [part[:-1], part[1:], part + part[-1:], part[:1] + part, part[::-1], part[1:] + part[:1]]
                for other in others:
                    if not is_same(other, part) and other != ():
                        self.refused(with_part(self.account, place, other))

    def test_each_cell_left_out_or_doubled(self):
        cells = self.account[3]
        for place in range(len(cells)):
            for other in (cells[:place] + cells[place + 1:], cells[:place] + cells[place:place + 1] + cells[place:]):
                self.refused(self.account[:3] + (other, self.account[4]))
        for place in range(len(cells) - 1):
            other = cells[:place] + (cells[place + 1], cells[place]) + cells[place + 2:]
            self.refused(self.account[:3] + (other, self.account[4]))

    def test_each_name_or_keeper_left_out_doubled_or_in_another_order(self):
        for at in (1, 2, 4):
            some = self.account[at]
            for place in range(len(some)):
                for other in (some[:place] + some[place + 1:], some[:place + 1] + some[place:], some[::-1]):
                    self.refused(self.account[:at] + (other,) + self.account[at + 1:])

    def test_a_keeper_left_out_with_its_share(self):
        for place in range(len(self.account[1])):
            keepers = self.account[1][:place] + self.account[1][place + 1:]
            shares = self.account[4][:place] + self.account[4][place + 1:]
            self.refused((self.account[0], keepers) + self.account[2:4] + (shares,))

    def test_a_cell_exchanged_for_another_with_the_same_sum(self):
        for place, cell in enumerate(self.account[3]):
            if cell[2][0] == 0:
                self.refused(with_cell(self.account, place, 2, (0, cell[2][1][::-1] + "x")))

    def test_holders(self):
        for place, cell in enumerate(self.account[3]):
            for other in ((), ("ann",), ("bob",), ("bob", "ann"), ("ann", "ann"), ("ann", "bob"), ("ann", "bob", "cid"),
                          "ann", None, ("ann", None), (("ann",),), (1,), (["ann"],)):
                if other != cell[5]:
                    self.refused(with_cell(self.account, place, 5, other))

    def test_shares(self):
        for place, (keeper, (top, bottom)) in enumerate(self.account[4]):
            for other in ((2 * top, 2 * bottom), (-top, -bottom), (top, bottom + 1), (top + bottom, bottom), top, None,
                          (top,), (top, bottom, 1), [top, bottom], (str(top), bottom), (0, 1), (1, 0), (0, 0)):
                self.refused(with_part(self.account, (4, place, 1), other))
            for other in ("cid", "", None, 0, (keeper,)):
                self.refused(with_part(self.account, (4, place, 0), other))
        self.refused(self.account[:4] + (self.account[4] + (("cid", (0, 1)),),))

    def test_heights(self):
        for place, cell in enumerate(self.account[3]):
            for other in (cell[3] + 1, cell[3] - 1, -1, 10 ** 40, None, True, False, "0", (), [0]):
                self.refused(with_cell(self.account, place, 3, other))
        # all of them one more is no better
        for more in (1, -1, 5):
            cells = tuple(cell[:3] + (cell[3] + more,) + cell[4:] for cell in self.account[3])
            self.refused(self.account[:3] + (cells, self.account[4]))

    def test_counts(self):
        for place, cell in enumerate(self.account[3]):
            for other in (cell[4] + 1, cell[4] - 1, 0, -1, None, True if cell[4] != 1 else False, "1", ()):
                self.refused(with_cell(self.account, place, 4, other))

    def test_tags_of_names(self):
        for place, named in enumerate(self.account[2]):
            for cell in self.account[3]:
                tag = (cell[0], cell[1], sum_of(cell[2]))
                if tag != named[4]:
                    self.refused(with_part(self.account, (2, place, 4), tag))

    def test_heads_that_are_none(self):
        names = {named[0]: place for place, named in enumerate(self.account[2])}
        self.refused(with_part(self.account, (2, names["s"], 3), 0))
        self.refused(with_part(self.account, (2, names["main"], 2), "cid"))
        self.refused(with_part(self.account, (2, names["main"], 2), "bob"))
        self.refused(with_part(self.account, (2, names["s"], 2), "cid"))
        self.refused(with_part(self.account, (2, names["s"], 2), "s"))
        self.refused(with_part(self.account, (2, names["main"], 3), "side"))


class WhateverTest(unittest.TestCase):
    def test_what_is_no_account_at_all(self):
        deep = ()
        for step in range(100000):
            deep = (deep,)
        lists = []
        for step in range(100000):
            lists = [lists]
        for thing in (None, True, False, 0, 1, -1, 10 ** 50, "", "account", [], (), (1,), [0, (), (), (), ()],
                      (0, (), (), ()), (0, (), (), (), (), ()), (0, [], (), (), ()), (0, (), [], (), ()),
                      (0, (), (), [], ()), (0, (), (), (), []), (True, (), (), (), ()), (None, (), (), (), ()),
                      (0, None, (), (), ()), (0, (), "", (), ()), (0, (), (), None, ()), (0, (), (), (), None),
                      (0, (), (), "", ()), (0, (), (), (), ""), (0, (), (), 5, ()), (0, (), (), (), 0),
                      (-1, (), (), (), ()), (1000000000, (), (), (), ()), (0, (), (), ((),), ()), (0, (), (), (None,), ()),
                      (0, (), (), ([],), ()), (0, (), (), (), ((),)), (0, (), (), (), ("ann",)), deep, lists,
                      (0, (), (), deep, ()), (0, (), (), (), deep), (0, (), (), lists, ()), (deep,) * 5, (lists,) * 5,
                      (0, (), (), (deep,), ()), (0, (), (), ((1, 0, deep, 0, 1, ()),), ()),
                      (0, (), (), ((1, 0, (0, "a"), deep, 1, ()),), ()), (0, (), (), ((1, 0, (0, "a"), 0, 1, deep),), ()),
                      (0, (), (), ((1, 0, (0, "a"), 0, 1, lists),), ())):
            self.assertIs(lets_by(thing), False)

    def test_deep_things_in_each_place(self):
        deep = ()
        for step in range(50000):
            deep = (deep,)
        account = of_stem(folder(("a", 1, file("ab", "c"))))
        self.assertTrue(lets_by(account))
        for place in places_in(account):
            for thing in (deep, [deep], [], [[]], ([],)):
                self.assertIs(lets_by(with_part(account, place, thing)), False)

    def test_junk_by_chance(self):
        def junk(chance, deep):
            pick = chance.randrange(9 if deep else 6)
            if pick < 6:
                return (None, True, chance.randrange(5), chance.choice(WORDS), "", chance.randrange(-9, 2000000))[pick]
            parts = [junk(chance, deep - 1) for part in range(chance.randrange(7))]
            return parts if pick == 6 else tuple(parts)

        for seed in range(2000):
            thing = junk(random.Random(seed), 5)
            self.assertIs(lets_by(thing), False)
            parts = [junk(random.Random(-seed - 1), 4) for part in range(5)]
            self.assertIs(lets_by(tuple(parts)), False)

    def test_nothing_handed_in_is_changed(self):
        account = story()
        ahead = repr(account)
        lets_by(account)
        self.assertEqual(repr(account), ahead)
        wrong = [list(account), [list(part) if isinstance(part, tuple) else part for part in account]]
        ahead = repr(wrong)
        lets_by(wrong)
        lets_by(tuple(wrong[1]))
        self.assertEqual(repr(wrong), ahead)


class WhatFollowsTest(unittest.TestCase):
    def test_all_shares_together_come_to_the_space(self):
        for account in (story(), of_stem(in_folder(file("ab"), file("a", "b")))):
            self.assertTrue(lets_by(account))
            self.assertEqual(sum(Fraction(*share) for keeper, share in account[4]),
                             sum(size_of(cell[2]) for cell in account[3]))
            self.assertTrue(all(cell[5] for cell in account[3]))


if __name__ == "__main__":
    unittest.main()
