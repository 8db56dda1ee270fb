import random
import unittest

from stemshelf.errors import NoThing
from stemshelf.things import is_thing, thing_of, words_of


def nested(inner, times):
    for step in range(times):
        inner = (inner,)
    return inner


def some_thing(chance, deep):
    kind = chance.randrange(3) if deep > 1 else chance.randrange(2)
    if kind == 0:
        return chance.choice((0, 1, 2, 5, 999999999, chance.randrange(1000000000)))
    if kind == 1:
        return "".join(chance.choice("ab &~0") for sign in range(chance.randrange(6)))
    return tuple(some_thing(chance, deep - 1) for part in range(chance.randrange(5)))


class IsThingTest(unittest.TestCase):
    def check(self, due, things):
        for thing in things:
            with self.subTest(repr(thing)[:60]):
                self.assertIs(is_thing(thing), due)

    def test_numbers(self):
        self.check(True, (0, 1, 93, 999999998, 999999999))
        self.check(False, (-1, 1000000000, 10 ** 30, -(10 ** 30)))

    def test_truths_and_none(self):
        self.check(False, (True, False, None, (True,), (False, 1), (0, None)))

    def test_texts(self):
        self.check(True, ("", " ", "~", "a b", "x" * 399, "x" * 400))
        self.check(False, ("x" * 401, "%", "5%5", "a\n", "\n", "\t", "\x1f", "\x7f", "\xe4", "a\u2028"))

    def test_a_spoilt_sign_anywhere_in_a_text(self):
        for place in range(4):
            self.check(False, ("abc"[:place] + "%" + "abc"[place:],))

    def test_tuples(self):
        self.check(True, ((), (0,), ("", 0, ()), (7,) * 99, (7,) * 100, ((),) * 100))
        self.check(False, ((7,) * 101, ((),) * 101, ((7,) * 101,), ("x" * 401, 0), (0, -1), (1000000000,)))

    def test_a_wrong_part_at_any_place(self):
        for place in range(3):
            parts = [0, "a", ()]
            parts[place] = None
            self.check(False, (tuple(parts),))

    def test_eight_deep_and_nine_deep(self):
        for inner in (5, "five", "", ()):
            self.check(True, (nested(inner, 6), nested(inner, 7)))
            self.check(False, (nested(inner, 8), nested(inner, 9), (0, nested(inner, 8))))

    def test_depth_is_that_of_the_deepest_part(self):
        self.check(True, ((1, nested(5, 6), 2),))
        self.check(False, ((1, nested(5, 7), 2),))

    def test_very_deep(self):
        self.assertIs(is_thing(nested(0, 5000)), False)

    def test_lists(self):
        around = []
        around.append(around)
        self.check(False, ([], [0], ([],), (0, [1]), ((0, ([],)),), around, (around,)))


class WordsTest(unittest.TestCase):
    def test_of_numbers(self):
        self.assertEqual(words_of(0), [0, 0])
        self.assertEqual(words_of(999999999), [0, 999999999])

    def test_of_texts(self):
        self.assertEqual(words_of(""), [1, 0])
        self.assertEqual(words_of(" &~"), [1, 3, 0, 5, 93])
        self.assertEqual(words_of("~" * 400), [1, 400] + [93] * 400)

    def test_of_tuples(self):
        self.assertEqual(words_of(()), [2, 0])
        self.assertEqual(words_of((7, "!", ())), [2, 3, 0, 7, 1, 1, 1, 2, 0])
        self.assertEqual(words_of(((), ((1,), "")), ), [2, 2, 2, 0, 2, 2, 2, 1, 0, 1, 1, 0])
        self.assertEqual(words_of((0,) * 100), [2, 100] + [0, 0] * 100)

    def test_each_time_a_new_list(self):
        thing = (1, "ab", (2,))
        words = words_of(thing)
        words.append(9)
        words[0] = 5
        self.assertEqual(words_of(thing), [2, 3, 0, 1, 1, 2, 64, 65, 2, 1, 0, 2])

    def test_beyond_bounds_nothing_is_refused(self):
        self.assertEqual(words_of(1000000000), [0, 1000000000])
        self.assertEqual(words_of("a" * 401), [1, 401] + [64] * 401)
        self.assertEqual(words_of((0,) * 101), [2, 101] + [0, 0] * 101)
        self.assertEqual(words_of(nested(0, 9)), [2, 1] * 9 + [0, 0])


class ThingOfTest(unittest.TestCase):
    def refused(self, words):
        with self.subTest(str(words)[:60]), self.assertRaises(NoThing):
            thing_of(words)

    def test_there_and_back(self):
        for thing in (0, 999999999, "", " ~", "x" * 400, (), (7,) * 100, (1, ("a", (), (2, "b"))), nested(0, 7),
                      nested("a", 7), nested((), 7)):
            with self.subTest(repr(thing)[:60]):
                self.assertEqual(thing_of(words_of(thing)), thing)

    def test_there_and_back_of_many(self):
        chance = random.Random(4)
        for turn in range(500):
            thing = some_thing(chance, 8)
            self.assertTrue(is_thing(thing))
            self.assertEqual(repr(thing_of(words_of(thing))), repr(thing))

    def test_the_kinds_told_are_just_those(self):
        told = thing_of([2, 3, 0, 1, 1, 0, 2, 0])
        self.assertEqual(repr(told), "(1, '', ())")

    def test_the_empty_list(self):
        self.refused([])

    def test_cut_short_at_any_place(self):
        for thing in (5, "abc", (1, "ab", (2, ()), ""), nested(3, 7)):
            words = words_of(thing)
            for place in range(len(words)):
                self.refused(words[:place])

    def test_words_behind_those_of_a_thing(self):
        for thing in (5, "abc", (), (1, "ab", (2, ()))):
            for more in ([0], [0, 0], [2, 0], [1]):
                self.refused(words_of(thing) + more)

    def test_an_unknown_first_word(self):
        for word in (3, -1, 93, 1000000000):
            self.refused([word])
            self.refused([word, 0])
            self.refused([2, 1, word, 0])

    def test_numbers_beyond_their_bound(self):
        for word in (-1, 1000000000, 10 ** 30):
            self.refused([0, word])
            self.refused([2, 1, 0, word])

    def test_counts_of_texts(self):
        self.assertEqual(thing_of([1, 400] + [93] * 400), "~" * 400)
        self.refused([1, 401] + [93] * 401)
        self.refused([1, -1])
        self.refused([1, -1, 0])

    def test_counts_of_tuples(self):
        self.assertEqual(thing_of([2, 100] + [0, 3] * 100), (3,) * 100)
        self.refused([2, 101] + [0, 3] * 101)
        self.refused([2, -1])
        self.refused([2, -1, 0, 0])

    def test_numbers_of_signs(self):
        self.assertEqual(thing_of([1, 2, 0, 93]), " ~")
        for word in (94, -1, 95, 999999999):
            self.refused([1, 1, word])
            self.refused([1, 2, 0, word])
            self.refused([1, 2, word, 0])

    def test_eight_deep_and_nine_deep(self):
        for words in ([0, 5], [1, 1, 0], [1, 0], [2, 0]):
            self.assertEqual(words_of(thing_of([2, 1] * 7 + words)), [2, 1] * 7 + words)
            self.refused([2, 1] * 8 + words)
            self.refused([2, 2, 0, 0] + [2, 1] * 7 + words)
        self.refused([2, 1] * 5000 + [0, 0])

    def test_what_is_handed_in_is_not_changed(self):
        for words in ([2, 2, 0, 1, 1, 1, 5], [2, 2, 0, 1, 1, 1], [0, 1, 2], []):
            ahead = list(words)
            try:
                thing_of(words)
            except NoThing:
                pass
            self.assertEqual(words, ahead)

    def test_what_is_changed_behind_changes_nothing(self):
        words = [2, 2, 0, 1, 1, 1, 5]
        told = thing_of(words)
        words[3] = 8
        self.assertEqual(told, (1, "&"))


if __name__ == "__main__":
    unittest.main()
