import itertools
import unittest

from stemshelf.boards import Boards
from stemshelf.errors import NoHouse, Stopped
from stemshelf.heads import head_of, is_head, lay_head
from stemshelf.marks import sealed
from stemshelf.things import is_thing, words_of

MOST = 999999999
TAG = (1, 0, 5)
KEEPERS = (("ann", 5), ("bob", 0), ("cid", MOST))
NAMES = (
    ("a", 1, "ann", "", TAG),
    ("b", 1, "bob", "s2", (2, 3, 0)),
    ("c", 1, "ann", "s4", (999999, MOST, 996)),
    ("s1", 2, "a", 1, TAG),
    ("s2", 2, "a", 5, TAG),
    ("s3", 2, "a", MOST, TAG),
    ("s4", 2, "b", 6, TAG),
    ("s5", 2, "c", 7, TAG),
)
HEAD = (9, KEEPERS, NAMES)


def with_name(*named):
    """The names with this one in the place of the one called so, or new."""
    others = [other for other in NAMES if other[0] != named[0]]
    return tuple(sorted(others + [named]))


def without(*names):
    return tuple(named for named in NAMES if named[0] not in names)


class IsHeadTest(unittest.TestCase):
    def holds(self, thing):
        self.assertIs(is_head(thing), True, thing)
        self.assertTrue(is_thing(thing), thing)

    def fails(self, thing):
        with self.subTest(thing):
            self.assertIs(is_head(thing), False)

    def test_ordinary_ones(self):
        self.holds((0, (), ()))
        self.holds(HEAD)
        self.holds((1, KEEPERS, ()))
        self.holds((1, (("ann", 1),), (("ann", 1, "ann", "", TAG),)))

    def test_whatever_is_no_head(self):
        for thing in (None, True, False, 0, 1, "", "head", [], (), [0, (), ()], (0, ()), (0, (), (), ()), (0,), ((), (), 0),
                      [0, [], []], (None, None, None), ("0", (), ()), {}, ((0, (), ()),)):
            self.fails(thing)
        deep = ()
        for step in range(3000):
            deep = (deep,)
        self.fails(deep)
        self.fails((0, deep, ()))
        self.fails((0, (), deep))

    def test_age(self):
        for age in (0, 1, MOST):
            self.holds((age, KEEPERS, NAMES))
        for age in (-1, MOST + 1, True, False, None, "9", (9,), [9]):
            self.fails((age, KEEPERS, NAMES))

    def test_an_age_below_turns_is_no_matter(self):
        self.holds((0, KEEPERS, NAMES))

    def test_bounds(self):
        for bound in (0, 1, MOST):
            self.holds((0, (("ann", bound),), ()))
        for bound in (-1, MOST + 1, True, False, None, "5", (), [5]):
            self.fails((0, (("ann", bound),), ()))

    def test_keepers_parts(self):
        for keepers in (None, 0, "", [], [("ann", 5)], {}, (("ann",),), (("ann", 5, 5),), (["ann", 5],), ("ann",), (5,),
                        ((),), ((5, "ann"),), (None,)):
            self.fails((0, keepers, ()))
        for name in ("", "Ann", "an n", "abcdefghi", 5, None, ("ann",), ["ann"], True, "a/b"):
            self.fails((0, ((name, 5),), ()))

    def test_keepers_rise_by_unlike_names(self):
        for one, other in (("a", "b"), ("a", "ab"), ("0", "a"), ("9", "z"), ("a", "a0")):
            self.holds((0, ((one, 9), (other, 1)), ()))
            self.fails((0, ((other, 1), (one, 9)), ()))
        self.fails((0, (("a", 1), ("a", 1)), ()))
        self.fails((0, (("a", 1), ("a", 2)), ()))
        self.fails((0, (("a", 1), ("c", 2), ("b", 3)), ()))

    def test_eight_and_nine_keepers(self):
        keepers = tuple((f"k{number}", number) for number in range(9))
        self.holds((0, keepers[:8], ()))
        self.fails((0, keepers, ()))

    def test_24_and_25_names(self):
        stems = tuple((f"n{number}", 1, "ann", "", TAG) for number in range(10, 35))
        self.holds((0, KEEPERS, stems[:24]))
        self.fails((0, KEEPERS, stems))
        seals = tuple((f"n{number}", 2, "n10", number, TAG) for number in range(11, 35))
        self.holds((0, KEEPERS, stems[:1] + seals[:23]))
        self.fails((0, KEEPERS, stems[:1] + seals))

    def test_names_parts(self):
        for names in (None, 0, "", [], list(NAMES), {}, (("a", 1, "ann", ""),), (("a", 1, "ann", "", TAG, 0),), ("a",),
                      (list(NAMES[0]),), ((),), (None,), (5,), (("a", 1),)):
            self.fails((0, KEEPERS, names))

    def test_kinds(self):
        for kind in (0, 3, True, "1", None, (1,), -1):
            self.fails((0, KEEPERS, with_name("a", kind, "ann", "", TAG)))
            self.fails((0, KEEPERS, with_name("s1", kind, "a", 1, TAG)))
        self.fails((0, KEEPERS, with_name("x", 2, "ann", "", TAG)))
        self.fails((0, KEEPERS, with_name("x", 1, "a", 2, TAG)))

    def test_names_are_names(self):
        for name in ("", "A", "a b", "abcdefghi", "a/b"):
            self.fails((0, KEEPERS, ((name, 1, "ann", "", TAG),)))
            self.fails((0, KEEPERS, tuple(sorted([("a", 1, "ann", "", TAG), (name, 2, "a", 1, TAG)]))))
        for name in (5, None, True, ("a",), ["a"]):
            self.fails((0, KEEPERS, ((name, 1, "ann", "", TAG),)))
            self.fails((0, KEEPERS, ((name, 2, "a", 1, TAG),)))
        self.holds((0, KEEPERS, (("abcdefgh", 1, "ann", "", TAG),)))

    def test_names_rise_by_unlike_ones(self):
        for one, other in itertools.combinations(range(len(NAMES)), 2):
            names = list(NAMES)
            names[one], names[other] = names[other], names[one]
            self.fails((0, KEEPERS, tuple(names)))
        for place in range(len(NAMES)):
            self.fails((0, KEEPERS, NAMES[:place] + NAMES[place:place + 1] + NAMES[place:]))
        # a stem and a seal of one name
        self.fails((0, KEEPERS, (("a", 1, "ann", "", TAG), ("a", 2, "a", 1, TAG))))
        self.fails((0, KEEPERS, (("a", 1, "ann", "", TAG), ("a", 1, "bob", "", TAG))))

    def test_tags(self):
        for tag in ((1, 0, 0), (999999, MOST, 996)):
            self.holds((0, KEEPERS, with_name("a", 1, "ann", "", tag)))
            self.holds((0, KEEPERS, with_name("s1", 2, "a", 1, tag)))
        for tag in ((0, 0, 0), (1000000, 0, 0), (1, -1, 0), (1, MOST + 1, 0), (1, 0, -1), (1, 0, 997), (1, 0), (1, 0, 0, 0),
                    [1, 0, 0], 1, "", None, (), (True, 0, 0), (1, False, 0), (1, 0, False)):
            self.fails((0, KEEPERS, with_name("a", 1, "ann", "", tag)))
            self.fails((0, KEEPERS, with_name("s1", 2, "a", 1, tag)))

    def test_keepers_that_are_named_are_there(self):
        for keeper in ("dan", "a", "s1", "an", "", "Ann", None, 5, ("ann",), ["ann"], True):
            self.fails((0, KEEPERS, with_name("a", 1, keeper, "", TAG)))
        self.fails((0, (), NAMES))
        self.fails((0, KEEPERS[1:], NAMES))
        self.holds((0, KEEPERS[:2], NAMES))

    def test_origins_are_seals_that_are_there(self):
        for origin in ("x", "a", "b", "ann", "S1", "s", "s11", None, 0, 5, (), ("s1",), ["s1"], False):
            self.fails((0, KEEPERS, with_name("b", 1, "bob", origin, TAG)))
        for origin in ("", "s1", "s2"):
            self.holds((0, KEEPERS, with_name("b", 1, "bob", origin, TAG)))
        self.fails((0, KEEPERS, without("s2")))

    def test_seals_stems_are_stems_that_are_there(self):
        for stem in ("x", "s1", "s2", "ann", "", "A", None, 5, ("a",), ["a"], True):
            self.fails((0, KEEPERS, with_name("s1", 2, stem, 1, TAG)))
        self.fails((0, KEEPERS, without("a")))
        self.fails((0, KEEPERS, (("s1", 2, "s1", 1, TAG),)))

    def test_turns(self):
        for turn in (1, 2, 4, 8, MOST - 1):
            self.holds((0, KEEPERS, with_name("s1", 2, "a", turn, TAG)))
        for turn in (0, -1, MOST + 1, True, "1", None, (1,), [1]):
            self.fails((0, KEEPERS, with_name("s1", 2, "a", turn, TAG)))

    def test_no_two_seals_of_one_turn(self):
        for turn in (5, 6, 7, MOST):
            self.fails((0, KEEPERS, with_name("s1", 2, "a", turn, TAG)))
        two = (("a", 1, "ann", "", TAG), ("b", 1, "bob", "", TAG), ("s", 2, "a", 3, TAG))
        self.holds((0, KEEPERS, two + (("t", 2, "b", 4, TAG),)))
        self.fails((0, KEEPERS, two + (("t", 2, "b", 3, TAG),)))

    def test_a_stems_seals_have_greater_turns_than_its_origin(self):
        # the origin of b is of turn 5, that of c of turn 6
        for seal, stem, turn in (("s4", "b", 4), ("s4", "b", 2), ("s5", "c", 4), ("x", "b", 3), ("x", "c", 2)):
            self.fails((0, KEEPERS, with_name(seal, 2, stem, turn, TAG)))
        for seal, stem, turn in (("s5", "c", 8), ("x", "b", 8), ("x", "a", 2)):
            self.holds((0, KEEPERS, with_name(seal, 2, stem, turn, TAG)))
        self.fails((0, KEEPERS, with_name("b", 1, "bob", "s3", TAG)))

    def test_a_stem_that_grew_from_its_own_seal(self):
        self.fails((0, KEEPERS, (("a", 1, "ann", "s", TAG), ("s", 2, "a", 3, TAG))))
        self.fails((0, KEEPERS, (("a", 1, "ann", "s", TAG), ("s", 2, "a", 3, TAG), ("t", 2, "a", 4, TAG))))

    def test_origins_that_lead_round(self):
        for one, other in ((3, 4), (4, 3)):
            self.fails((0, KEEPERS, (("a", 1, "ann", "t", TAG), ("b", 1, "bob", "s", TAG), ("s", 2, "a", one, TAG),
                                     ("t", 2, "b", other, TAG))))

    def test_keepers_and_names_may_be_called_alike(self):
        self.holds((0, (("a", 0), ("s", 0)), (("a", 1, "a", "", TAG), ("s", 2, "a", 3, TAG))))

    def test_what_is_handed_in_is_not_changed(self):
        thing = [0, [["ann", 5]], [["a", 1, "ann", "", [1, 0, 0]]]]
        is_head(thing)
        is_head((0, (), thing))
        self.assertEqual(thing, [0, [["ann", 5]], [["a", 1, "ann", "", [1, 0, 0]]]])


class LayTest(unittest.TestCase):
    def test_on_all_boards_as_sealed_words_in_cell_0(self):
        for many in (2, 3, 4):
            for head in ((0, (), ()), HEAD):
                boards = Boards(many)
                lay_head(boards, head)
                for board in range(many):
                    self.assertEqual(boards.cell(board, 0), sealed(words_of(head)))
                self.assertEqual(boards.written(), many)

    def test_the_words_of_a_new_one(self):
        boards = Boards(2)
        lay_head(boards, (0, (), ()))
        # 2 * 1, 3 * 2, 2 * 5, 2 * 7
        self.assertEqual(boards.cell(1, 0), [2, 3, 0, 0, 2, 0, 2, 0, 32])

    def test_rising(self):
        for stop in range(4):
            boards = Boards(4)
            boards.stop(stop)
            with self.assertRaises(Stopped):
                lay_head(boards, HEAD)
            self.assertEqual([boards.cell(board, 0) is not None for board in range(4)],
                             [board < stop for board in range(4)])

    def test_in_the_place_of_another(self):
        boards = Boards(3)
        lay_head(boards, HEAD)
        lay_head(boards, (0, (), ()))
        self.assertEqual(head_of(boards), (0, (), ()))


class HeadOfTest(unittest.TestCase):
    def boards(self, *rows):
        boards = Boards(len(rows))
        for board, row in enumerate(rows):
            boards.spoil(board, 0, sealed(words_of(row)) if isinstance(row, tuple) else row)
        return boards

    def aged(self, age, name="ann"):
        return (age, ((name, 5),), ())

    def test_there_and_back(self):
        boards = Boards(3)
        for head in ((0, (), ()), HEAD, (MOST, KEEPERS, ())):
            boards = Boards(3)
            lay_head(boards, head)
            self.assertEqual(head_of(boards), head)

    def test_the_greatest_age(self):
        for ages in itertools.permutations((3, 4, 9)):
            self.assertEqual(head_of(self.boards(*[self.aged(age) for age in ages])), self.aged(9))

    def test_of_several_the_first_boards(self):
        one, other, elder = self.aged(7, "ann"), self.aged(7, "bob"), self.aged(6)
        self.assertEqual(head_of(self.boards(one, other)), one)
        self.assertEqual(head_of(self.boards(other, one)), other)
        self.assertEqual(head_of(self.boards(elder, other, one, other)), other)
        self.assertEqual(head_of(self.boards(None, one, elder, other)), one)

    def wrong_rows(self):
        right = sealed(words_of(HEAD[:2] + (NAMES[:1],)))
        for place in range(len(right)):
            yield right[:place] + [right[place] + 1] + right[place + 1:]
        yield None
        yield []
        yield [0]
        yield right[:-1]
        yield right + [0]
        yield sealed(right)
        yield sealed(words_of(HEAD) + [0])
        yield [-1, -1]
        yield sealed([5, 5])
        for thing in ((99, KEEPERS), (99, KEEPERS, NAMES[1:]), (99, (), NAMES), (99, KEEPERS[::-1], ()), (3, 99, (0, "oak")),
                      (99, (), (), ())):
            yield sealed(words_of(thing))
        yield sealed(words_of(99))
        yield sealed(words_of("head"))

    def test_unsound_and_wrong_cells_are_passed_over(self):
        head = self.aged(2)
        for row in self.wrong_rows():
            with self.subTest(row):
                self.assertEqual(head_of(self.boards(row, head)), head)
                self.assertEqual(head_of(self.boards(head, row)), head)
                self.assertEqual(head_of(self.boards(row, head, row)), head)

    def test_no_house(self):
        for many in (2, 3, 4):
            with self.assertRaises(NoHouse):
                head_of(Boards(many))
        for row in self.wrong_rows():
            with self.subTest(row):
                with self.assertRaises(NoHouse):
                    head_of(self.boards(row, row))

    def test_heads_elsewhere_are_none(self):
        boards = Boards(2)
        for number in (1, 2, 3):
            boards.spoil(0, number, sealed(words_of(HEAD)))
        with self.assertRaises(NoHouse):
            head_of(boards)

    def test_reading_writes_nothing(self):
        boards = self.boards(self.aged(1), self.aged(2), [5])
        boards.stop(0)
        rows = [boards.cell(board, 0) for board in range(3)]
        head_of(boards)
        self.assertEqual([boards.cell(board, 0) for board in range(3)], rows)
        self.assertEqual(boards.written(), 0)


if __name__ == "__main__":
    unittest.main()
