"""Deeds written as rows, read back, and done."""

import random
import unittest

from helper import DEEDS, STORY, Chance, Plain, new_house, refusal_of, stands, tree_of
from stemshelf.errors import NoRow
from stemshelf.plain import PlainHouse
from stemshelf.rows import done, read_row, row_of
from stemshelf.signs import SIGNS

PAIRS = (
    (("keeper", "ann", 0), "keeper ann 0"),
    (("keeper", "ann", 999999999), "keeper ann 999999999"),
    (("stem", "main", "ann"), "stem main ann"),
    (("folder", "main", "a/b"), "folder main a/b"),
    (("folder", "main", ""), "folder main ."),
    (("write", "main", "a", "some content"), "write main a some content"),
    (("write", "main", "a", ""), "write main a "),
    (("write", "main", "a", " "), "write main a  "),
    (("write", "main", "", "  x  "), "write main .   x  "),
    (("write", "main", "a", "."), "write main a ."),
    (("write", "main", "a", "0012"), "write main a 0012"),
    (("splice", "main", "a/b", 0, 10, "text"), "splice main a/b 0 10 text"),
    (("splice", "main", "a", 7, 0, ""), "splice main a 7 0 "),
    (("splice", "main", "", 123456789, 1, " a  b "), "splice main . 123456789 1  a  b "),
    (("remove", "main", "a"), "remove main a"),
    (("remove", "main", ""), "remove main ."),
    (("move", "main", "a", "b/c"), "move main a b/c"),
    (("move", "main", "", ""), "move main . ."),
    (("copy", "main", "a", "s", "b"), "copy main a s b"),
    (("copy", "main", "a", "s", ""), "copy main a s ."),
    (("seal", "main", "s"), "seal main s"),
    (("grow", "side", "s", "bob"), "grow side s bob"),
    (("back", "main"), "back main"),
    (("graft", "side"), "graft side"),
    (("drop", "s"), "drop s"),
)


class RowTest(unittest.TestCase):
    def test_there_and_back(self):
        self.assertEqual({deed[0] for deed, row in PAIRS}, set(DEEDS))
        for deed, row in PAIRS:
            self.assertEqual(row_of(deed), row)
            self.assertEqual(read_row(row), deed)
            self.assertIsInstance(read_row(row), tuple)

    def test_deeds_by_chance_there_and_back(self):
        chance, plain = Chance(3), Plain()
        for turn in range(600):
            deed = chance.deed(plain)
            due = plain.behind(deed[0], deed[1:])
            plain = due if isinstance(due, Plain) else plain
            # a name without signs has no row
            if deed[0] not in ("stem", "seal", "grow") or "" not in deed:
                self.assertEqual(read_row(row_of(deed)), deed)

    def test_every_sign_in_a_content(self):
        self.assertEqual(read_row("write m a " + SIGNS), ("write", "m", "a", SIGNS))
        self.assertEqual(row_of(("splice", "m", "a", 1, 2, SIGNS)), "splice m a 1 2 " + SIGNS)
        self.assertEqual(read_row("write m a " + "x" * 500)[3], "x" * 500)

    def test_names_and_paths_are_not_looked_at(self):
        self.assertEqual(read_row("folder MAIN ../x//"), ("folder", "MAIN", "../x//"))
        self.assertEqual(read_row("stem . ~"), ("stem", ".", "~"))
        self.assertEqual(read_row("drop much-longer-than-any-name"), ("drop", "much-longer-than-any-name"))
        self.assertEqual(read_row("copy a b/ . /"), ("copy", "a", "b/", ".", "/"))
        self.assertEqual(read_row("keeper write 5"), ("keeper", "write", 5))

    def test_read_rows_are_of_their_kinds(self):
        deed = read_row("splice m a 0 999999999 5")
        self.assertEqual(deed, ("splice", "m", "a", 0, 999999999, "5"))
        self.assertEqual([part.__class__ for part in deed], [str, str, str, int, int, str])


class NoRowTest(unittest.TestCase):
    def refused(self, text):
        self.assertEqual(refusal_of(read_row, text), ("NoRow", {}), text)

    def test_a_word_too_few_and_too_many(self):
        for deed, row in PAIRS:
            words = row_of(deed[:1] + tuple("x" if part == "" else part for part in deed[1:])).split(" ")
            if deed[0] not in ("write", "splice"):
                self.refused(" ".join(words[:-1]))
                self.refused(row + " x")
                self.refused(row + " ")
            self.refused(words[0])
            self.refused(words[0] + " ")
        self.refused("write main a")
        self.refused("write main")
        self.refused("splice main a 0 1")
        self.refused("splice main a 0")
        self.refused("splice main a 0 text")

    def test_two_blanks_and_blanks_around(self):
        for deed, row in PAIRS:
            self.refused(" " + row)
            self.refused(row.replace(" ", "  ", 1))
            if deed[0] not in ("write", "splice"):
                self.refused(row + " ")
        self.refused("write main  content")
        self.refused("write  main content")
        self.refused("splice main a 0  text")
        self.refused("splice main a  0 text")

    def test_numbers(self):
        for number in ("00", "01", "007", "1234567890", "0000000000", "-1", "+1", "1.0", "x", "1x", "0x1", "1_0", "."):
            self.refused("keeper ann " + number)
            self.refused("splice m a " + number + " 0 x")
            self.refused("splice m a 0 " + number + " x")
        for number in ("\u0661", "\u00b2", "\uff11"):
            self.refused("keeper ann " + number)
        self.assertEqual(read_row("keeper ann 100000000"), ("keeper", "ann", 100000000))

    def test_unknown_words(self):
        for row in ("", " ", ".", "Keeper ann 5", "keepers ann 5", "take_in a b c d", "take_in", "read main a", "open",
                    "paths main", "age", "come_to x", "head", "__init__ a", "stemx a b", "ste a b", "lost", "mend"):
            self.refused(row)

    def test_what_is_no_text(self):
        for thing in (None, True, False, 0, 5, [], ["drop", "s"], (), ("drop", "s"), ["drop s"]):
            self.refused(thing)

    def test_what_has_other_signs(self):
        for sign in ("\n", "\t", "\u0025", "\u00e9", "\u00a0", "\x00", "\x7f"):
            for row in ("drop s" + sign, sign + "drop s", "drop" + sign + "s", "write m a x" + sign, "write m a" + sign + "x",
                        "keeper ann 5" + sign):
                self.refused(row)

    def test_junk_by_chance(self):
        for seed in range(3000):
            chance = random.Random(seed)
            words = [chance.choice(DEEDS + ("", "x", "a/b", ".", "0", "12", "01")) for word in range(chance.randrange(7))]
            row = " ".join(words)
            try:
                deed = read_row(row)
            except NoRow:
                continue
            self.assertEqual(row_of(deed), row)


class DoneTest(unittest.TestCase):
    def test_in_a_house_and_in_a_plain_one(self):
        boards, house = new_house(2)
        other_boards, due = new_house(2, *STORY)
        plain = PlainHouse()
        for deed in STORY:
            self.assertIsNone(done(house, read_row(row_of(deed))))
            self.assertIsNone(done(plain, deed))
        self.assertEqual(stands(house), stands(due))
        for named in due.head()[2]:
            self.assertEqual(tree_of(plain, named[0]), tree_of(due, named[0]))

    def test_refusals_come_through(self):
        boards, house = new_house(2, *STORY)
        plain = PlainHouse()
        for some in (house, plain):
            self.assertEqual(refusal_of(done, some, ("drop", "x")), ("NoName", {"name": "x"}))
            self.assertEqual(refusal_of(done, some, ("keeper", "A", 5)), ("NoName", {"name": "A"}))
            self.assertEqual(refusal_of(done, some, ("stem", "a b", "x")), ("NoName", {"name": "a b"}))
        self.assertEqual(refusal_of(done, house, ("write", "main", "a", "x")), ("NoPath", {"path": "a"}))
        self.assertEqual(refusal_of(done, house, ("graft", "side")), ("Bare", {"name": "side"}))

    def test_what_is_no_deed_does_nothing(self):
        boards, house = new_house(2, *STORY)
        ahead = stands(house)
        self.assertEqual(refusal_of(done, house, ("take_in", "main")), ("NoRow", {}))
        self.assertEqual(stands(house), ahead)


if __name__ == "__main__":
    unittest.main()
