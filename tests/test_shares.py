import random
import unittest
from fractions import Fraction

from stemshelf.boards import Boards
from stemshelf.contents import put_content
from stemshelf.fractions import summed
from stemshelf.heads import is_head
from stemshelf.pool import Pool
from stemshelf.shares import all_in_hand, alone_in, holders_in, over_in, share_in, space_in
from stemshelf.trees import with_entry

# Sizes by hand: a piece of n signs 6 + n, an empty row 8, a row of n tags 8 + 8n, a folder of none 6,
# an entry more in a folder 2 and 2 + its name's signs and 2 and 8
EMPTY_FOLDER = 6
ROW_OF_ONE = 16
PIECE_OF_ONE = 7
ENTRY_A = 15


class ShareTest(unittest.TestCase):
    def setUp(self):
        self.boards = Boards(3)
        self.pool = Pool(self.boards)

    def tree(self, **files):
        root = self.pool.put((2, ()), 0)
        for path, content in files.items():
            root = with_entry(self.pool, root, path, (1, put_content(self.pool, content, 0)), 0)
        return root

    def head(self, bounds, *names):
        """A head of these names, and the pool swept of what it doesn't reach."""
        head = (9, tuple(sorted(bounds.items())), tuple(sorted(names)))
        self.assertTrue(is_head(head))
        for named in names:
            self.pool.hold(named[4])
        self.pool.sweep()
        return head

    def check(self, head, **due):
        """due: of each keeper its share, what it holds alone and in all."""
        for keeper, (share, alone, in_all) in due.items():
            share = Fraction(share)
            self.assertEqual(share_in(self.pool, head, keeper), (share.numerator, share.denominator), keeper)
            self.assertEqual(alone_in(self.pool, head, keeper), alone, keeper)
            self.assertEqual(all_in_hand(self.pool, head, keeper), in_all, keeper)
        self.all_come_to_the_space(head)

    def all_come_to_the_space(self, head):
        shares = [share_in(self.pool, head, keeper) for keeper, bound in head[1]]
        self.assertEqual(summed(shares), (space_in(self.pool), 1))


class SharesTest(ShareTest):
    def test_nothing_taken(self):
        head = self.head({})
        self.assertEqual(holders_in(self.pool, head), {})
        self.assertEqual(space_in(self.pool), 0)
        self.assertEqual(over_in(self.pool, head), [])
        head = self.head({"ann": 0, "bob": 5})
        self.check(head, ann=(0, 0, 0), bob=(0, 0, 0))
        self.assertEqual(over_in(self.pool, head), [])

    def test_sizes_by_hand(self):
        self.assertEqual(self.pool.size(self.tree()[0]), EMPTY_FOLDER)
        root = self.tree(a="x")
        row = self.pool.tags(root[0])[0]
        piece = self.pool.tags(row[0])[0]
        self.assertEqual([self.pool.size(tag[0]) for tag in (root, row, piece)],
                         [EMPTY_FOLDER + ENTRY_A, ROW_OF_ONE, PIECE_OF_ONE])

    def test_one_keeper(self):
        root = self.tree(a="x")
        head = self.head({"ann": 99}, ("one", 1, "ann", "", root))
        self.check(head, ann=(44, 44, 44))
        self.assertEqual(space_in(self.pool), 44)
        self.assertEqual(holders_in(self.pool, head), {number: ["ann"] for number in self.pool.numbers()})

    def test_a_keeper_that_holds_nothing(self):
        head = self.head({"ann": 99, "bob": 0}, ("one", 1, "ann", "", self.tree(a="x")))
        self.check(head, ann=(44, 44, 44), bob=(0, 0, 0))

    def test_nothing_in_common(self):
        head = self.head({"ann": 99, "bob": 99}, ("one", 1, "ann", "", self.tree(a="x")),
                         ("two", 1, "bob", "", self.tree()))
        self.check(head, ann=(44, 44, 44), bob=(6, 6, 6))
        self.assertEqual(space_in(self.pool), 50)

    def test_all_in_common(self):
        root = self.tree(a="x")
        head = self.head({"ann": 99, "bob": 99}, ("one", 1, "ann", "", root), ("two", 1, "bob", "", root))
        self.check(head, ann=(22, 0, 44), bob=(22, 0, 44))
        head = self.head({"ann": 9, "bob": 9, "cid": 9}, ("one", 1, "ann", "", root), ("two", 1, "bob", "", root),
                         ("three", 1, "cid", "", root))
        self.check(head, ann=(Fraction(44, 3), 0, 44), cid=(Fraction(44, 3), 0, 44))
        self.assertEqual(set(map(tuple, holders_in(self.pool, head).values())), {("ann", "bob", "cid")})

    def test_a_part_in_common(self):
        one, two = self.tree(a="x"), self.tree(b="x")
        head = self.head({"ann": 99, "bob": 99}, ("one", 1, "ann", "", one), ("two", 1, "bob", "", two))
        # the row and the piece are held by both
        self.check(head, ann=(21 + Fraction(23, 2), 21, 44), bob=(21 + Fraction(23, 2), 21, 44))
        self.assertEqual(space_in(self.pool), 65)
        holders = holders_in(self.pool, head)
        self.assertEqual(holders[one[0]], ["ann"])
        self.assertEqual(holders[two[0]], ["bob"])
        self.assertEqual(sorted(map(len, holders.values())), [1, 1, 2, 2])

    def test_held_by_one_two_and_three(self):
        one, two, three = self.tree(a="x"), self.tree(a="x", b="y"), self.tree(b="y")
        head = self.head({"ann": 99, "bob": 99, "cid": 99}, ("one", 1, "ann", "", one), ("two", 1, "bob", "", two),
                         ("three", 1, "cid", "", three), ("four", 1, "cid", "", one))
        # one (21), x and its row (23): ann and cid hold one, all three x; bob alone two (36), bob and cid y (23)
        self.check(head, ann=(Fraction(21, 2) + Fraction(23, 3), 0, 44),
                   bob=(36 + Fraction(23, 3) + Fraction(23, 2), 36, 82),
                   cid=(21 + Fraction(21, 2) + Fraction(23, 3) + Fraction(23, 2), 21, 88))

    def test_by_several_names_it_counts_once(self):
        root = self.tree(a="x")
        head = self.head({"ann": 99}, ("one", 1, "ann", "", root), ("two", 1, "ann", "", root),
                         ("s", 2, "one", 3, root), ("t", 2, "two", 4, self.tree(b="x")))
        self.check(head, ann=(44 + 21, 65, 65))
        self.assertEqual(set(map(tuple, holders_in(self.pool, head).values())), {("ann",)})

    def test_by_several_paths_it_counts_once(self):
        inner = self.tree(a="x")
        root = self.pool.put((2, (("a", 2, inner), ("b", 2, inner))), 0)
        head = self.head({"ann": 99}, ("one", 1, "ann", "", root))
        self.check(head, ann=(36 + 44, 80, 80))

    def test_alike_pieces_of_one_file_count_once(self):
        # two pieces of two blanks each
        head = self.head({"ann": 99}, ("one", 1, "ann", "", self.tree(a="    ")))
        self.check(head, ann=(21 + 24 + 8, 53, 53))

    def test_seals_count_for_their_stems_keeper(self):
        one, two = self.tree(a="x"), self.tree(a="y")
        head = self.head({"ann": 99, "bob": 99}, ("one", 1, "ann", "", self.tree()), ("two", 1, "bob", "", self.tree()),
                         ("s", 2, "one", 3, one), ("t", 2, "two", 4, two))
        self.check(head, ann=(44 + 3, 44, 50), bob=(44 + 3, 44, 50))
        holders = holders_in(self.pool, head)
        self.assertEqual((holders[one[0]], holders[two[0]]), (["ann"], ["bob"]))

    def test_an_origins_seal_counts_for_its_own_stems_keeper_alone(self):
        one = self.tree(a="x")
        head = self.head({"ann": 99, "bob": 99}, ("one", 1, "ann", "", one), ("s", 2, "one", 3, one),
                         ("two", 1, "bob", "s", self.tree()))
        self.check(head, ann=(44, 44, 44), bob=(6, 6, 6))

    def test_names_of_keepers_and_stems_are_not_mixed_up(self):
        # a stem that is called like a keeper, and a seal whose stem is called like one
        head = self.head({"ann": 99, "bob": 99}, ("ann", 1, "bob", "", self.tree(a="x")), ("bob", 1, "bob", "", self.tree()),
                         ("s", 2, "ann", 3, self.tree(b="y")))
        self.check(head, ann=(0, 0, 0), bob=(44 + 6 + 44, 94, 94))

    def test_all_taken_numbers_are_told_those_that_nobody_holds_too(self):
        root = self.tree(a="x")
        head = self.head({"ann": 99}, ("one", 1, "ann", "", root))
        loose = self.pool.put((0, "loose"), 1)
        holders = holders_in(self.pool, head)
        self.assertEqual(sorted(holders), self.pool.numbers())
        self.assertEqual(holders[loose[0]], [])
        self.assertEqual(space_in(self.pool), 44 + 11)
        self.assertEqual(share_in(self.pool, head, "ann"), (44, 1))

    def test_lists_rise_by_keepers(self):
        root = self.tree()
        keepers = ["zed", "0", "b", "ab", "a"]
        head = self.head({keeper: 0 for keeper in keepers},
                         *[(f"n{place}", 1, keeper, "", root) for place, keeper in enumerate(keepers)])
        self.assertEqual(holders_in(self.pool, head), {root[0]: ["0", "a", "ab", "b", "zed"]})
        self.check(head, zed=(Fraction(6, 5), 0, 6))

    def test_blocks_need_not_be_read(self):
        root = self.tree(a="x", b="content")
        head = self.head({"ann": 99, "bob": 1}, ("one", 1, "ann", "", root), ("two", 1, "bob", "", root))
        self.pool.lay_draft()
        share = share_in(self.pool, head, "ann")
        for board in range(3):
            self.boards.lose(board)
        self.assertEqual(share_in(self.pool, head, "ann"), share)
        self.assertEqual(over_in(self.pool, head), ["bob"])

    def test_told_ones_are_the_askers_own(self):
        root = self.tree(a="x")
        head = self.head({"ann": 1}, ("one", 1, "ann", "", root))
        ahead = (head, [self.pool.tags(number) for number in self.pool.numbers()])
        told = holders_in(self.pool, head)
        told[root[0]].append("bob")
        told[99] = []
        over_in(self.pool, head).append("bob")
        over_in(self.pool, head).clear()
        self.assertEqual(holders_in(self.pool, head), {number: ["ann"] for number in self.pool.numbers()})
        self.assertEqual(over_in(self.pool, head), ["ann"])
        self.check(head, ann=(44, 44, 44))
        self.assertEqual((head, [self.pool.tags(number) for number in self.pool.numbers()]), ahead)


class OverTest(ShareTest):
    def test_at_its_bound_below_it_and_above_it(self):
        root = self.tree(a="x")
        for bound, due in ((43, ["ann"]), (44, []), (45, []), (0, ["ann"]), (999999999, [])):
            head = (9, (("ann", bound),), (("one", 1, "ann", "", root),))
            self.assertEqual(over_in(self.pool, head), due)

    def test_a_share_between_two_whole_numbers(self):
        root = self.tree(a="x")
        names = [(name, 1, keeper, "", root) for name, keeper in (("one", "ann"), ("three", "cid"), ("two", "bob"))]
        # a third of 44 is above 14 and below 15
        for bound, due in ((14, ["ann"]), (15, []), (13, ["ann"])):
            head = (9, (("ann", bound), ("bob", 99), ("cid", 99)), tuple(names))
            self.assertEqual(over_in(self.pool, head), due)

    def test_rising(self):
        root = self.tree(a="x")
        keepers = ["0", "a", "ab", "b", "zed"]
        names = tuple((f"n{place}", 1, keeper, "", root) for place, keeper in enumerate(keepers))
        # a fifth of 44 is above 8 and below 9
        for bounds, due in (((8, 8, 8, 8, 8), keepers), ((9, 8, 9, 8, 9), ["a", "b"]), ((9, 9, 9, 9, 9), [])):
            self.assertEqual(over_in(self.pool, (9, tuple(zip(keepers, bounds)), names)), due)


class ManyHeadsTest(ShareTest):
    """Shares against what is reckoned anew, block by block."""

    def beneath(self, tag):
        found = {tag[0]}
        for below in self.pool.tags(tag[0]):
            found |= self.beneath(below)
        return found

    def some_head(self, chance):
        keepers = sorted(chance.sample(["ann", "bob", "cid", "dan", "eve"], chance.randrange(1, 6)))
        names = []
        for place in range(chance.randrange(1, 9)):
            files = {name: chance.choice(("", "x", "content", "another content")) for name in chance.sample("abcd", 2)}
            root = self.tree(**files)
            stems = [named[0] for named in names if named[1] == 1]
            if stems and chance.randrange(2):
                names.append((f"n{place}", 2, chance.choice(stems), place + 1, root))
            else:
                names.append((f"n{place}", 1, chance.choice(keepers), "", root))
        return self.head({keeper: chance.randrange(120) for keeper in keepers}, *names)

    def test_many(self):
        for seed in range(60):
            self.pool = Pool(Boards(2))
            head = self.some_head(random.Random(seed))
            keeper_of = {named[0]: named[2] for named in head[2] if named[1] == 1}
            held = {keeper: set() for keeper, bound in head[1]}
            for name, kind, other, between, tag in head[2]:
                held[keeper_of[name if kind == 1 else other]] |= self.beneath(tag)
            holders = {number: sorted(keeper for keeper in held if number in held[keeper]) for number in self.pool.numbers()}
            self.assertEqual(holders_in(self.pool, head), holders)
            size = self.pool.size
            shares = {keeper: sum(Fraction(size(number), len(holders[number])) for number in held[keeper]) for keeper in held}
            self.check(head, **{keeper: (shares[keeper], sum(size(number) for number in held[keeper]
                                                            if holders[number] == [keeper]),
                                         sum(size(number) for number in held[keeper])) for keeper in held})
            self.assertEqual(over_in(self.pool, head), [keeper for keeper, bound in head[1] if shares[keeper] > bound])


if __name__ == "__main__":
    unittest.main()
