"""The desk: rows told, and their answers."""

import itertools
import unittest

from helper import MOST, STORY, Chance, Plain, refusal_of
from stemshelf.desk import Desk
from stemshelf.errors import NoBoards
from stemshelf.rows import row_of

NO_ROW = ("NoRow", {})
NO_HOUSE = ("NoHouse", {})
STOPPED = ("Stopped", {})
# rows that ask for a house, and those that don't
HOUSE_ROWS = ("read main a/b", "paths main", "share ann", "over", "history main", "age", "space", "looked",
              "keeper ann 5", "drop s", "write main x y", "stem A x")
BOARD_ROWS = ("stop 5", "go", "lose 0", "spoil 0 3", "mend", "lost")


def told(many, *rows):
    """A desk that was told these rows."""
    desk = Desk(many)
    for row in rows:
        desk.say(row)
    return desk


def with_story(many):
    return told(many, *[row_of(deed) for deed in STORY])


class DeskTest(unittest.TestCase):
    def refused(self, desk, row, due):
        self.assertEqual(refusal_of(desk.say, row), due, row)

    def answers(self, desk, *pairs):
        for row, answer in pairs:
            self.assertEqual(desk.say(row), answer, row)


class NewDeskTest(DeskTest):
    def test_on_two_three_and_four_boards(self):
        for many in (2, 3, 4):
            self.answers(Desk(many), ("age", "0"), ("space", "0"), ("over", ""), ("looked", "let by"), ("lost", ""),
                         ("mend", ""), ("open", "ok"), ("age", "1"))

    def test_no_boards(self):
        for many in (0, 1, 5, -1, None, True, "2"):
            self.assertRaises(NoBoards, Desk, many)

    def test_two_desks_are_apart(self):
        one, other = Desk(2), Desk(2)
        one.say("keeper ann 5")
        self.answers(other, ("age", "0"), ("open", "ok"))
        self.answers(one, ("age", "1"))


class DeedsTest(DeskTest):
    def test_each_deed_is_ok(self):
        for many in (2, 3, 4):
            desk = Desk(many)
            for age, deed in enumerate(STORY, start=1):
                self.answers(desk, (row_of(deed), "ok"), ("age", str(age)), ("looked", "let by"))

    def test_refusals(self):
        desk = with_story(2)
        age = desk.say("age")
        for row, due in (("stem A ann", ("NoName", {"name": "A"})), ("stem main x", ("Twice", {"name": "main"})),
                         ("stem new x", ("NoName", {"name": "x"})), ("folder main .", ("NoPath", {"path": ""})),
                         ("folder main a", ("Twice", {"name": "a"})), ("write main a x", ("NoPath", {"path": "a"})),
                         ("write main x " + "x" * 401, ("TooMany", {})), ("remove main .", ("NoPath", {"path": ""})),
                         ("graft side", ("Bare", {"name": "side"})), ("drop s", ("Grown", {"name": "s"})),
                         ("back x", ("NoName", {"name": "x"})), ("keeper K 5", ("NoName", {"name": "K"}))):
            self.refused(desk, row, due)
        desk.say("keeper bob 0")
        self.refused(desk, "write side x " + "x" * 100, ("OverBound", {"name": "bob"}))
        self.answers(desk, ("age", str(int(age) + 1)), ("over", "bob"))

    def test_blanks_in_contents(self):
        desk = told(2, "keeper ann 999999999", "stem main ann", "write main a  two  blanks ", "write main b ")
        self.answers(desk, ("read main a", " two  blanks "), ("read main b", ""))
        desk.say("splice main a 0 1 ")
        desk.say("splice main b 0 0   ")
        self.answers(desk, ("read main a", "two  blanks "), ("read main b", "  "))


class AnswersTest(DeskTest):
    def setUp(self):
        self.desk = told(3, "keeper ann 999999999", "keeper bob 100", "stem main ann", "folder main b",
                         "write main b/c x", "write main a some content", "stem bare bob")

    def test_read(self):
        self.answers(self.desk, ("read main a", "some content"), ("read main b/c", "x"))
        self.refused(self.desk, "read x a", ("NoName", {"name": "x"}))
        self.refused(self.desk, "read main .", ("NoPath", {"path": ""}))
        self.refused(self.desk, "read main b", ("NoPath", {"path": "b"}))
        self.refused(self.desk, "read main A", ("NoPath", {"path": "A"}))

    def test_paths(self):
        self.answers(self.desk, ("paths main", "a b/ b/c"), ("paths bare", ""), ("folder bare z", "ok"),
                     ("paths bare", "z/"))
        self.refused(self.desk, "paths x", ("NoName", {"name": "x"}))
        self.refused(self.desk, "paths ann", ("NoName", {"name": "ann"}))

    def test_share(self):
        self.answers(self.desk, ("share bob", "6"), ("keeper cid 5", "ok"), ("share cid", "0"))
        self.answers(self.desk, ("seal main s", "ok"), ("keeper bob 999999999", "ok"), ("write bare q x", "ok"))
        # the root alone, 21, and half of 16 and 7 in common with main
        self.answers(self.desk, ("share bob", "65/2"))
        self.refused(self.desk, "share x", ("NoName", {"name": "x"}))
        self.refused(self.desk, "share main", ("NoName", {"name": "main"}))

    def test_over(self):
        self.answers(self.desk, ("over", ""), ("keeper ann 3", "ok"), ("over", "ann"), ("keeper bob 5", "ok"),
                     ("over", "ann bob"), ("keeper bob 6", "ok"), ("over", "ann"))

    def test_history(self):
        self.answers(self.desk, ("history main", ""), ("seal main z", "ok"), ("seal main s", "ok"),
                     ("history main", "z s"), ("grow side s ann", "ok"), ("seal side t", "ok"), ("history side", "z s t"),
                     ("graft side", "ok"), ("history side", "z s t"), ("history main", "z s"))
        for name in ("x", "s", "ann"):
            self.refused(self.desk, "history " + name, ("NoName", {"name": name}))

    def test_age_and_space(self):
        self.answers(self.desk, ("age", "7"), ("drop main", "ok"), ("space", "6"), ("drop bare", "ok"), ("space", "0"),
                     ("age", "9"))

    def test_looked_where_something_is_lost(self):
        self.answers(self.desk, ("looked", "let by"))
        for board in range(3):
            self.desk.say(f"lose {board}")
        self.assertEqual(refusal_of(self.desk.say, "looked")[0], "Lost")
        self.answers(self.desk, ("age", "7"))

    def test_mend(self):
        desk = told(2, "keeper ann 999999999", "stem main ann", "write main a x")
        self.answers(desk, ("mend", ""), ("spoil 0 0", "ok"), ("mend", "0"), ("mend", ""))
        numbers = desk.house.pool().numbers()
        for number in numbers:
            desk.say(f"spoil 1 {number}")
        self.answers(desk, ("mend", " ".join(str(number) for number in numbers)), ("lose 0", "ok"),
                     ("mend", " ".join(str(number) for number in [0] + numbers)), ("lose 1", "ok"), ("read main a", "x"))

    def test_lost(self):
        desk = told(2, "keeper ann 999999999", "stem main ann", "folder main b", "write main b/c x", "seal main s",
                    "write main d y")
        self.answers(desk, ("lost", ""))
        tag = desk.house.tag_at("main", "b/c")[0]
        for board in (0, 1):
            desk.say(f"spoil {board} {tag}")
        self.answers(desk, ("lost", f"{tag} main:b/c s:b/c"))
        root = desk.house.tag_at("s", "")[0]
        for board in (0, 1):
            desk.say(f"spoil {board} {root}")
        rows = sorted(((tag, f"{tag} main:b/c"), (root, f"{root} s:.")))
        self.answers(desk, ("lost", "\n".join(row for number, row in rows)), ("mend", ""))
        self.assertEqual(refusal_of(desk.say, "open"), ("Lost", {"number": min(tag, root)}))
        self.answers(desk, ("lost", "\n".join(row for number, row in rows)))

    def test_stop_and_go(self):
        desk = told(2, "keeper ann 5")
        self.answers(desk, ("stop 2", "ok"), ("keeper ann 6", "ok"))
        self.answers(desk, ("stop 1", "ok"), ("go", "ok"), ("keeper ann 7", "ok"), ("age", "3"))
        self.answers(desk, ("stop 0", "ok"), ("age", "3"), ("over", ""), ("looked", "let by"), ("lost", ""), ("mend", ""))
        self.refused(desk, "stem A ann", ("NoName", {"name": "A"}))
        self.answers(desk, ("age", "3"))

    def test_lose_and_spoil(self):
        for many in (2, 3, 4):
            desk = with_story(many)
            content = desk.say("read main a/b")
            self.answers(desk, (f"lose {many - 1}", "ok"), ("read main a/b", content), ("mend", desk_numbers(desk, many)))
            for board in range(many):
                self.answers(desk, (f"spoil {board} 0", "ok"), (f"spoil {board} 999999999", "ok"))
            self.assertEqual(refusal_of(desk.say, "mend"), NO_HOUSE)
            self.assertEqual(refusal_of(desk.say, "lost"), NO_HOUSE)
            self.answers(desk, ("read main a/b", content), ("keeper ann 999999999", "ok"), ("open", "ok"),
                         ("read main a/b", content))


def desk_numbers(desk, many):
    """The numbers that are mended where the last board is lost."""
    numbers = [number for number in desk.house.pool().numbers() if many - 1 in desk.boards.twins(number)]
    return " ".join(str(number) for number in [0] + numbers)


class NoRowTest(DeskTest):
    ROWS = ("", " ", "x", "read", "read main", "read main a b", "read  main a", "read main  a", " read main a",
            "read main a ", "paths", "paths main x", "paths ", "share", "share ann bob", "share ", "over x", "over ",
            "history", "history a b", "age x", " age", "age ", "space 1", "looked at", "stop", "stop x", "stop 01",
            "stop -1", "stop 1234567890", "stop 1 2", "stop ", "go on", "go ", "lose", "lose x", "lose 00", "lose 0 1",
            "spoil", "spoil 0", "spoil 0 x", "spoil x 0", "spoil 0 01", "spoil 0 1 2", "spoil 0 1234567890", "mend 0",
            "mend ", "lost x", "lost ", "open x", "open ", "Open", "keeper", "keeper ann", "keeper ann 01", "stem a",
            "write a b", "take_in a b c", "drop", "drop a b", "say age", "read main a\n", "write main a \t",
            "write main a \u0025", "age\n", "age age", "lose 4", "lose 9", "lose 999999999", "spoil 4 0", "spoil 9 0")

    def test_with_a_house_and_without_one(self):
        for many in (2, 3, 4):
            desk = with_story(many)
            rows = self.ROWS + (f"lose {many}", f"spoil {many} 1")
            age = desk.say("age")
            for row in rows + (None, True, 0, 5, [], (), ["age"], ("age",)):
                self.refused(desk, row, NO_ROW)
            self.answers(desk, ("age", age))
            desk.say("stop 0")
            for row in rows:
                self.refused(desk, row, NO_ROW)
            self.answers(desk, ("age", age))
            self.refused(desk, "keeper ann 5", STOPPED)
            for row in rows + (None, 5, ["age"]):
                self.refused(desk, row, NO_ROW)
            self.refused(desk, "age", NO_HOUSE)

    def test_boards_that_are_there(self):
        for many in (2, 3, 4):
            for board in range(many):
                desk = Desk(many)
                self.answers(desk, (f"lose {board}", "ok"), (f"spoil {board} 0", "ok"), ("mend", "0"))


class StoppedTest(DeskTest):
    def stopped(self, many=2, writes=0):
        desk = with_story(many)
        desk.say(f"stop {writes}")
        self.refused(desk, "write main new content that is new", STOPPED)
        return desk

    def test_all_but_the_boards_rows_are_refused(self):
        desk = self.stopped()
        for row in HOUSE_ROWS:
            self.refused(desk, row, NO_HOUSE)
        self.answers(desk, ("lost", ""), ("mend", ""), ("stop 5", "ok"), ("go", "ok"), ("lose 0", "ok"),
                     ("spoil 0 3", "ok"))
        self.assertNotEqual(desk.say("mend"), "")
        for row in HOUSE_ROWS:
            self.refused(desk, row, NO_HOUSE)
        self.answers(desk, ("open", "ok"), ("looked", "let by"))

    def test_opened_again_it_is_there_again(self):
        for many in (2, 3, 4):
            due = with_story(many)
            total = 0
            while refusal_of(self.stopped_at(many, total).say, "age") is not None:
                total += 1
            for writes in range(total):
                desk = self.stopped_at(many, writes)
                self.refused(desk, "age", NO_HOUSE)
                self.answers(desk, ("go", "ok"), ("open", "ok"), ("looked", "let by"),
                             ("read main a/b", due.say("read main a/b")), ("history side", due.say("history side")))
                self.assertIn(desk.say("paths main"), (due.say("paths main"), due.say("paths main") + " new"))
                self.answers(desk, ("write main new content that is new", "ok"),
                             ("read main new", "content that is new"))

    def stopped_at(self, many, writes):
        desk = with_story(many)
        desk.say(f"stop {writes}")
        refusal_of(desk.say, "write main new content that is new")
        return desk

    def test_opening_stopped(self):
        desk = self.stopped()
        self.refused(desk, "open", STOPPED)
        self.refused(desk, "age", NO_HOUSE)
        self.answers(desk, ("stop 1", "ok"))
        self.refused(desk, "open", STOPPED)
        self.refused(desk, "age", NO_HOUSE)
        self.answers(desk, ("stop 2", "ok"), ("open", "ok"), ("age", str(len(STORY) + 2)))

    def test_an_open_that_is_stopped_takes_the_house_away(self):
        desk = with_story(2)
        self.answers(desk, ("stop 0", "ok"))
        self.refused(desk, "open", STOPPED)
        for row in HOUSE_ROWS:
            self.refused(desk, row, NO_HOUSE)
        self.answers(desk, ("go", "ok"), ("open", "ok"), ("age", str(len(STORY) + 1)))

    def test_an_open_that_is_refused_takes_the_house_away(self):
        desk = with_story(3)
        for board in range(3):
            self.answers(desk, (f"lose {board}", "ok"))
        self.answers(desk, ("age", str(len(STORY))))
        self.refused(desk, "open", NO_HOUSE)
        for row in HOUSE_ROWS:
            self.refused(desk, row, NO_HOUSE)
        for row in ("mend", "lost", "open"):
            self.refused(desk, row, NO_HOUSE)
        self.answers(desk, ("stop 3", "ok"), ("go", "ok"), ("lose 2", "ok"), ("spoil 1 7", "ok"))

    def test_an_open_that_is_refused_with_lost(self):
        desk = with_story(2)
        root = desk.house.tag_at("main", "")[0]
        self.answers(desk, (f"spoil 0 {root}", "ok"), (f"spoil 1 {root}", "ok"), ("age", str(len(STORY))))
        self.refused(desk, "open", ("Lost", {"number": root}))
        for row in HOUSE_ROWS:
            self.refused(desk, row, NO_HOUSE)
        self.answers(desk, ("lost", f"{root} main:."), ("mend", ""))
        self.refused(desk, "open", ("Lost", {"number": root}))

    def test_a_mend_that_is_stopped_takes_the_house_away(self):
        desk = with_story(2)
        self.answers(desk, ("lose 0", "ok"), ("stop 1", "ok"))
        self.refused(desk, "mend", STOPPED)
        for row in HOUSE_ROWS:
            self.refused(desk, row, NO_HOUSE)
        self.answers(desk, ("go", "ok"), ("open", "ok"), ("looked", "let by"))
        self.assertNotEqual(desk.say("mend"), "")
        self.answers(desk, ("mend", ""), ("looked", "let by"))

    def test_the_boards_rows_in_all_orders(self):
        for order in itertools.permutations(("stop 1", "go", "lose 1", "spoil 0 3", "mend", "lost", "open"), 4):
            desk = with_story(2)
            due = desk.say("read main a/b"), desk.say("paths side")
            is_there = True
            for row in order:
                refusal = refusal_of(desk.say, row)
                if refusal is None:
                    is_there = is_there or row == "open"
                elif refusal == STOPPED:
                    self.assertIn(row, ("mend", "open"))
                    is_there = False
                else:
                    # the other copy of what was spoilt on one board lay on the lost one
                    self.assertEqual((row, refusal[0]), ("open", "Lost"))
                    self.assertLessEqual({"lose 1", "spoil 0 3"}, set(order))
                    is_there = False
                self.assertEqual(refusal_of(desk.say, "age"), None if is_there else NO_HOUSE, order)
            if not {"lose 1", "spoil 0 3"} <= set(order):
                self.answers(desk, ("go", "ok"), ("open", "ok"), ("read main a/b", due[0]), ("paths side", due[1]))


class ManyRowsTest(DeskTest):
    def test_deeds_by_chance(self):
        for seed in range(3):
            desk, plain, chance = Desk(2 + seed), Plain(), Chance(seed + 70)
            for turn in range(150):
                deed = chance.deed(plain)
                if deed[0] in ("stem", "seal", "grow") and "" in deed:
                    continue
                due = plain.behind(deed[0], deed[1:])
                if isinstance(due, Plain):
                    self.answers(desk, (row_of(deed), "ok"))
                    plain = due
                else:
                    self.refused(desk, row_of(deed), (due.__class__.__name__, vars(due)))
                if turn % 10 == 0:
                    self.answers(desk, ("open", "ok"), ("looked", "let by"))
                    plain = plain.aged(plain.age + 1)
                    for name, tree in plain.trees().items():
                        words = [path + ("/" if tree[path] is None else "") for path in sorted(tree)]
                        self.answers(desk, ("paths " + name, " ".join(words)))
                        for path in tree:
                            if tree[path] is not None:
                                self.answers(desk, (f"read {name} {path}", tree[path]))
                    for keeper in plain.keepers:
                        self.answers(desk, ("share " + keeper, str(plain.share(keeper))))
                    over = [keeper for keeper in sorted(plain.keepers) if plain.share(keeper) > plain.keepers[keeper]]
                    self.answers(desk, ("over", " ".join(over)), ("age", str(plain.age)))

    def test_each_row_on_two_three_and_four_boards(self):
        for many in (2, 3, 4):
            self.answers(
                Desk(many), ("keeper ann 999999999", "ok"), ("keeper bob 100", "ok"), ("stem main ann", "ok"),
                ("folder main b", "ok"), ("write main b/c xyz", "ok"), ("splice main b/c 1 1 __", "ok"),
                ("read main b/c", "x__z"), ("move main b/c d", "ok"), ("paths main", "b/ d"), ("seal main s", "ok"),
                ("copy main b/all s .", "ok"), ("paths main", "b/ b/all/ b/all/b/ b/all/d d"), ("remove main b/all", "ok"),
                ("back main", "ok"), ("grow side s bob", "ok"), ("history side", "s"), ("graft side", "ok"),
                ("history main", "s"), ("space", "68"), ("share ann", "34"), ("share bob", "34"), ("over", ""),
                ("keeper bob 33", "ok"), ("over", "bob"), ("looked", "let by"), ("age", "14"), ("lost", ""), ("mend", ""),
                ("spoil 1 0", "ok"), ("mend", "0"), ("lose 0", "ok"), ("read side d", "x__z"), ("stop 4", "ok"),
                ("go", "ok"), ("open", "ok"), ("age", "15"), ("drop main", "ok"), ("share bob", "68"), ("paths s", "b/ d"))

    def test_a_desk_goes_on_with_the_same_boards(self):
        desk = told(4, f"keeper ann {MOST}", "stem main ann", "write main a one", "open", "write main a two", "open")
        self.answers(desk, ("read main a", "two"), ("age", "6"), ("lose 3", "ok"), ("open", "ok"), ("read main a", "two"))


if __name__ == "__main__":
    unittest.main()
