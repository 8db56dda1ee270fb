import unittest

from stemshelf.marks import mark_of, sealed, unsealed

RESTS = 2147483647


class MarkTest(unittest.TestCase):
    def test_of_no_words(self):
        self.assertEqual(mark_of([]), 0)

    def test_of_several(self):
        self.assertEqual(mark_of([5]), 5)
        self.assertEqual(mark_of([5, 7, 11]), 5 + 14 + 33)
        self.assertEqual(mark_of([0, 0, 1]), 3)

    def test_by_rests(self):
        self.assertEqual(mark_of([RESTS - 1]), RESTS - 1)
        self.assertEqual(mark_of([RESTS]), 0)
        self.assertEqual(mark_of([1, RESTS - 1]), RESTS - 1)
        self.assertEqual(mark_of([RESTS - 1, 1]), 1)
        self.assertEqual(mark_of([999999999] * 4), 9999999990 % RESTS)


class SealedTest(unittest.TestCase):
    def test_the_mark_is_behind(self):
        self.assertEqual(sealed([]), [0])
        self.assertEqual(sealed([5, 7, 11]), [5, 7, 11, 52])

    def test_a_new_list(self):
        words = [5, 7]
        row = sealed(words)
        self.assertEqual(words, [5, 7])
        row[0] = 99
        self.assertEqual(words, [5, 7])
        words.append(1)
        self.assertEqual(row, [99, 7, 19])
        self.assertEqual(sealed([5, 7]), [5, 7, 19])


class UnsealedTest(unittest.TestCase):
    def test_the_words_ahead_of_the_mark(self):
        self.assertEqual(unsealed([0]), [])
        for words in ([], [0], [0, 0, 0], [5, 7, 11], [RESTS - 1], [RESTS - 1] * 5):
            self.assertEqual(unsealed(sealed(words)), words)

    def test_the_empty_list(self):
        self.assertIsNone(unsealed([]))

    def test_a_word_below_or_beyond(self):
        self.assertIsNone(unsealed([-1, RESTS - 1]))
        self.assertIsNone(unsealed([-1, 1, 1]))
        self.assertIsNone(unsealed([-2, 1, 0]))
        self.assertIsNone(unsealed([RESTS, 0]))
        self.assertIsNone(unsealed([RESTS]))
        self.assertIsNone(unsealed([5, 5 + RESTS]))
        self.assertIsNone(unsealed([5, 5 - RESTS]))
        self.assertEqual(unsealed([RESTS - 1, RESTS - 1]), [RESTS - 1])

    def test_a_mark_that_is_not_right(self):
        self.assertIsNone(unsealed([1]))
        self.assertIsNone(unsealed([5, 7, 11, 51]))
        self.assertIsNone(unsealed([5, 7, 11, 53]))
        self.assertIsNone(unsealed([5, 7, 11]))

    def test_one_changed_word_is_seen(self):
        row = sealed([3, 0, 8, 8, 2147483646, 1])
        for place in range(len(row)):
            for word in (0, 1, 2, 77, RESTS - 1, row[place] + 1):
                if word != row[place]:
                    self.assertIsNone(unsealed(row[:place] + [word] + row[place + 1:]))

    def test_two_unlike_words_exchanged_are_seen(self):
        row = sealed([3, 0, 8, 8, 2147483646, 1])
        for one in range(len(row)):
            for other in range(one):
                changed = list(row)
                changed[one], changed[other] = row[other], row[one]
                if changed != row:
                    self.assertIsNone(unsealed(changed))

    def test_what_is_handed_in_stays_and_what_is_told_is_new(self):
        row = [5, 7, 19]
        told = unsealed(row)
        told.append(3)
        told[0] = 1
        self.assertEqual(row, [5, 7, 19])
        self.assertEqual(unsealed(row), [5, 7])
        row[0] = 6
        self.assertEqual(told, [1, 7, 3])


if __name__ == "__main__":
    unittest.main()
