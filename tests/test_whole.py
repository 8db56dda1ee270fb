"""The whole: rows of many deeds, boards opened anew, stopped, spoilt, lost and mended between, against plain copies."""

import random
import unittest
from fractions import Fraction

from helper import (
    DEEDS,
    Chance,
    Plain,
    all_of,
    do,
    new_house,
    pool_state,
    reached_by,
    refusal_of,
    spoil_copies,
    stands,
    tree_of,
)
from stemshelf.accounts import account_of
from stemshelf.heads import is_head
from stemshelf.histories import history_in
from stemshelf.looker import lets_by
from stemshelf.mending import copies_told, lost_in, mended, mended_by
from stemshelf.opening import opened
from stemshelf.plain import PlainHouse
from stemshelf.rows import done
from stemshelf.shares import alone_in, all_in_hand, over_in, share_in, space_in
from stemshelf.taking import take_in


def histories(plain):
    """Of each stem its history, by plain means."""
    def history(stem):
        own = sorted((turn, name) for name, (owner, turn, tree) in plain.seals.items() if owner == stem)
        origin = plain.stems[stem][1]
        ahead = []
        if origin != "":
            ahead = history(plain.seals[origin][0])
            ahead = ahead[:ahead.index(origin) + 1]
        return ahead + [name for turn, name in own]

    return {stem: history(stem) for stem in plain.stems}


class WholeTest(unittest.TestCase):
    """A house, a plain house, and plain copies of the test's own."""

    def begin(self, many, seed):
        self.boards, self.house = new_house(many)
        self.plain_house, self.plain = PlainHouse(), Plain()
        self.chance, self.luck = Chance(seed), random.Random(seed)
        # accounts that were told, each with the trees of that time
        self.accounts = []

    def check(self):
        head, pool, plain = self.house.head(), self.house.pool(), self.plain
        self.assertTrue(is_head(head))
        self.assertEqual(self.house.age(), plain.age)
        self.assertEqual(stands(self.house), plain.stands())
        self.assertEqual({name: tree_of(self.plain_house, name) for name in plain.trees()}, plain.trees())
        self.assertEqual({stem: history_in(head, stem) for stem in plain.stems}, histories(plain))
        reached = reached_by(self.boards, head)
        self.assertEqual([(pool.tag(number), pool.count(number)) for number in pool.numbers()],
                         sorted((tag, count) for tag, (block, count) in reached.items()))
        self.assertEqual(len({block for block, count in reached.values()}), len(reached))
        self.check_tags()
        self.check_shares()
        self.assertTrue(lets_by(account_of(self.house)))

    def check_tags(self):
        """Two files have one tag just where their contents are alike."""
        tags = {}
        for name, tree in self.plain.trees().items():
            for path, content in tree.items():
                if content is not None:
                    tags.setdefault(content, set()).add(self.house.tag_at(name, path))
        self.assertTrue(all(len(some) == 1 for some in tags.values()))
        self.assertEqual(len(set().union(*tags.values())), len(tags))

    def check_shares(self):
        head, pool, plain = self.house.head(), self.house.pool(), self.plain
        blocks = set().union(*[plain.sizes.tree(tree)[1] for tree in plain.trees().values()])
        self.assertEqual(len(pool.numbers()), len(blocks))
        self.assertEqual(space_in(pool), sum(plain.sizes.sizes[block] for block in blocks))
        shares = {keeper: Fraction(*share_in(pool, head, keeper)) for keeper in plain.keepers}
        self.assertEqual(shares, {keeper: plain.share(keeper) for keeper in plain.keepers})
        self.assertEqual(sum(shares.values()), space_in(pool))
        self.assertEqual(over_in(pool, head),
                         [keeper for keeper in sorted(shares) if shares[keeper] > plain.keepers[keeper]])
        for keeper in shares:
            self.assertLessEqual(alone_in(pool, head, keeper), shares[keeper])
            self.assertLessEqual(shares[keeper], all_in_hand(pool, head, keeper))

    def tell(self, deed):
        """Tells all three a deed; the name of what refuses it, or None."""
        due = self.plain.behind(deed[0], deed[1:])
        ahead = all_of(self.house, self.boards)
        refusal = refusal_of(done, self.house, deed)
        if isinstance(due, Plain):
            self.assertIsNone(refusal, deed)
            self.plain = due
            self.assertIsNone(refusal_of(done, self.plain_house, deed))
            return None
        self.assertEqual(refusal, (due.__class__.__name__, vars(due)), deed)
        self.assertEqual(all_of(self.house, self.boards), ahead)
        if refusal[0] != "OverBound":
            self.assertEqual(refusal_of(done, self.plain_house, deed), refusal)
        return refusal[0]

    def open_again(self):
        self.house = opened(self.boards)
        self.plain = self.plain.aged(self.house.age())


class ManyDeedsTest(WholeTest):
    def test_deeds_alone(self):
        met = {}
        for seed in range(6):
            self.begin(2 + seed % 3, seed)
            for turn in range(200):
                deed = self.chance.deed(self.plain)
                refusal = self.tell(deed)
                met[(deed[0], refusal)] = met.get((deed[0], refusal), 0) + 1
                if refusal is None and turn % 3 == 0:
                    self.check()
            self.check()
        self.assertEqual({word for word, refusal in met if refusal is None}, set(DEEDS))
        self.assertEqual({refusal for word, refusal in met},
                         {None, "NoName", "NoPath", "Twice", "TooMany", "OverBound", "Bare", "Grown"})


class ManyMishapsTest(WholeTest):
    def spoil_some(self):
        """Spoils one copy of each of some blocks, in all sorts of ways, and heads on all boards but one."""
        for number in self.house.pool().numbers():
            if self.luck.randrange(3) == 0:
                board = self.luck.choice(self.boards.twins(number))
                row = self.boards.cell(board, number) or [0]
                place = self.luck.randrange(len(row))
                row[place] += self.luck.choice((-1, 1, 5))
                self.boards.spoil(board, number, self.luck.choice((None, [], row)))
        sound = self.luck.randrange(self.boards.many())
        for board in range(self.boards.many()):
            if board != sound and self.luck.randrange(2):
                self.boards.spoil(board, 0, self.luck.choice((None, [], [1], [0, 0, 5])))

    def mend(self):
        mended(self.boards)
        self.assertEqual({right for number, birth, right in copies_told(self.boards)} | {2}, {2})
        self.assertEqual(mended(self.boards), [])

    def lose_all_and_mend_by(self):
        """All blocks are lost that an elder account tells; what it tells is laid anew."""
        account = account_of(self.house)
        if self.luck.randrange(2):
            account = self.luck.choice(self.accounts + [(account, None)])[0]
        told = {(cell[0], cell[1]) for cell in account[3]}
        gone = [tag for tag in map(self.house.pool().tag, self.house.pool().numbers()) if tag[:2] in told]
        for tag in gone:
            spoil_copies(self.boards, tag)
        self.assertEqual(bool(lost_in(self.boards)), bool(gone))
        self.assertEqual(mended_by(self.boards, account), [tag[0] for tag in gone])
        self.assertEqual(lost_in(self.boards), [])

    def stop_in(self, deed):
        """The deed, stopped behind some writes; opened again, perhaps with stops, it was done or not."""
        due = self.plain.behind(deed[0], deed[1:])
        self.boards.stop(self.luck.randrange(40))
        refusal = refusal_of(done, self.house, deed)
        self.boards.stop(None)
        if refusal != ("Stopped", {}):
            if isinstance(due, Plain):
                self.plain = due
                done(self.plain_house, deed)
            return
        while refusal == ("Stopped", {}):
            self.boards.stop(self.luck.randrange(6))
            refusal = refusal_of(opened, self.boards)
        self.boards.stop(None)
        self.house = opened(self.boards)
        if stands(self.house) == due.stands():
            self.plain = due
            done(self.plain_house, deed)
        self.plain = self.plain.aged(self.house.age())

    def take_some_in(self):
        able = [(account, trees) for account, trees in self.accounts if trees]
        if not able:
            return
        account, trees = self.luck.choice(able)
        source, keeper = self.luck.choice(sorted(trees)), self.luck.choice(sorted(self.plain.keepers))
        name = "in" + str(self.luck.randrange(9))
        ahead = all_of(self.house, self.boards)
        refusal = refusal_of(take_in, self.house, name, keeper, account, source)
        if refusal is not None:
            self.assertEqual(all_of(self.house, self.boards), ahead)
        if refusal is None or refusal[0] != "OverBound":
            self.assertEqual(refusal_of(self.plain_house.take_in, name, keeper, trees[source]), refusal)
        if refusal is None:
            self.plain = self.plain.aged(self.plain.age + 1)
            self.plain.stems[name] = (keeper, "", trees[source])

    def mishap(self, deed):
        pick = self.luck.randrange(8)
        if pick == 0:
            self.open_again()
        elif pick == 1:
            self.boards.lose(self.luck.randrange(self.boards.many()))
            self.check()
            self.mend()
        elif pick == 2:
            self.spoil_some()
            self.check()
            self.mend()
        elif pick == 3:
            self.spoil_some()
            self.open_again()
            self.mend()
        elif pick == 4:
            self.lose_all_and_mend_by()
        elif pick == 5:
            self.accounts.append((account_of(self.house), self.plain.trees()))
        elif pick == 6:
            self.take_some_in()
        else:
            self.stop_in(deed)

    def test_deeds_and_mishaps(self):
        for seed in range(100, 109):
            self.begin(2 + seed % 3, seed)
            self.tell(("keeper", "ann", 999999999))
            for turn in range(120):
                self.tell(self.chance.deed(self.plain))
                if turn % 3 == 0:
                    self.mishap(self.chance.deed(self.plain))
                    self.check()


class SameAgainTest(WholeTest):
    def test_a_house_and_its_opened_one_go_on_alike(self):
        self.begin(3, 7)
        for turn in range(80):
            self.tell(self.chance.deed(self.plain))
        boards = self.boards.again()
        other = opened(boards)
        self.assertEqual(pool_state(other.pool()), pool_state(self.house.pool()))
        for turn in range(80):
            deed = self.chance.deed(self.plain)
            self.tell(deed)
            refusal_of(do, other, *deed)
            for named in self.house.head()[2]:
                self.assertEqual(tree_of(other, named[0]), self.plain.trees()[named[0]])


class OverBoundTest(WholeTest):
    def test_just_as_point_22_tells(self):
        """Bounds just at, just below and just above what a share comes to."""
        for seed in range(200, 206):
            self.begin(2, seed)
            for deed in (("keeper", "ann", 999999999), ("keeper", "bob", 999999999), ("stem", "p0", "ann"),
                         ("stem", "p1", "bob")):
                self.tell(deed)
            met = set()
            for turn in range(60):
                deed = self.chance.deed(self.plain)
                behind = self.plain.behind(deed[0], deed[1:])
                if isinstance(behind, Plain) and deed[0] not in ("keeper", "drop", "seal", "back"):
                    stem = deed[1]
                    keeper = behind.stems[stem][0]
                    share, ahead = behind.share(keeper), self.plain.share(keeper)
                    least = -(-share.numerator // share.denominator)
                    for bound in (least - 1, least):
                        if bound >= 0:
                            self.tell(("keeper", keeper, bound))
                            is_over = share > bound and share > ahead
                            due = self.plain.behind(deed[0], deed[1:])
                            self.assertEqual(due.__class__.__name__ == "OverBound", is_over)
                            met.add((bound == least, is_over))
                            if bound == least or is_over:
                                self.tell(deed)
                    self.tell(("keeper", keeper, 999999999))
                else:
                    self.tell(deed)
            self.assertEqual(met, {(False, True), (False, False), (True, False)})
            self.check()


if __name__ == "__main__":
    unittest.main()
