import fractions
import random
import unittest

from stemshelf.fractions import fraction, is_above, summed

GREAT = 10 ** 40


def plain(one):
    return fractions.Fraction(one[0], one[1])


class FractionTest(unittest.TestCase):
    def test_lowest_terms(self):
        for top, bottom, due in ((1, 2, (1, 2)), (2, 4, (1, 2)), (6, 4, (3, 2)), (4, 2, (2, 1)), (7, 7, (1, 1)),
                                 (12, 18, (2, 3)), (5, 1, (5, 1)), (840, 8, (105, 1)), (17, 31, (17, 31)), (1, 1, (1, 1)),
                                 (9, 3, (3, 1)), (3, 9, (1, 3))):
            self.assertEqual(fraction(top, bottom), due)

    def test_a_top_of_0(self):
        for bottom in (1, 2, 8, 997, GREAT):
            self.assertEqual(fraction(0, bottom), (0, 1))

    def test_bottoms_from_1_on(self):
        for top in range(40):
            for bottom in range(1, 40):
                due = fractions.Fraction(top, bottom)
                self.assertEqual(fraction(top, bottom), (due.numerator, due.denominator))

    def test_tops_below_0(self):
        for top, bottom, due in ((-1, 2, (-1, 2)), (-4, 6, (-2, 3)), (-6, 3, (-2, 1)), (-5, 1, (-5, 1))):
            self.assertEqual(fraction(top, bottom), due)

    def test_great_numbers(self):
        self.assertEqual(fraction(6 * GREAT, 4 * GREAT), (3, 2))
        self.assertEqual(fraction(GREAT + 1, GREAT), (GREAT + 1, GREAT))
        self.assertEqual(fraction(GREAT, 1), (GREAT, 1))

    def test_it_is_a_tuple_of_whole_numbers(self):
        one = fraction(3, 6)
        self.assertIs(one.__class__, tuple)
        self.assertEqual([part.__class__ for part in one], [int, int])


class SummedTest(unittest.TestCase):
    def test_of_none_and_of_one(self):
        self.assertEqual(summed([]), (0, 1))
        for one in ((0, 1), (1, 2), (7, 3), (5, 1)):
            self.assertEqual(summed([one]), one)

    def test_sums(self):
        for some, due in (([(1, 2), (1, 2)], (1, 1)), ([(1, 2), (1, 3)], (5, 6)), ([(1, 6), (1, 3)], (1, 2)),
                          ([(1, 3)] * 3, (1, 1)), ([(1, 8)] * 6, (3, 4)), ([(0, 1), (2, 7), (0, 1)], (2, 7)),
                          ([(5, 1), (7, 1)], (12, 1)), ([(-1, 2), (1, 2)], (0, 1)), ([(1, 2), (-2, 3)], (-1, 6))):
            self.assertEqual(summed(some), due)

    def test_many_and_great_ones(self):
        chance = random.Random(3)
        for turn in range(60):
            some = [fraction(chance.randrange(GREAT if turn % 3 == 0 else 100), chance.randrange(1, 9 + turn * turn))
                    for one in range(chance.randrange(12))]
            due = sum((plain(one) for one in some), fractions.Fraction(0))
            self.assertEqual(summed(some), (due.numerator, due.denominator))

    def test_the_list_is_not_changed(self):
        some = [(1, 2), (1, 3), (1, 6)]
        summed(some)
        self.assertEqual(some, [(1, 2), (1, 3), (1, 6)])


class AboveTest(unittest.TestCase):
    def test_rising(self):
        rising = [(-3, 1), (-1, 2), (0, 1), (1, 9), (1, 8), (1, 3), (1, 2), (2, 3), (7, 8), (1, 1), (8, 7), (3, 2), (2, 1),
                  (GREAT, 1), (GREAT * 2 + 1, 2), (GREAT + 1, 1)]
        for place, one in enumerate(rising):
            for other_place, other in enumerate(rising):
                self.assertIs(is_above(one, other), place > other_place, (one, other))

    def test_hardly_above(self):
        self.assertIs(is_above((GREAT + 1, GREAT), (1, 1)), True)
        self.assertIs(is_above((GREAT - 1, GREAT), (1, 1)), False)
        self.assertIs(is_above((10 ** 17 + 1, 10 ** 17), (10 ** 17 + 2, 10 ** 17 + 1)), True)
        self.assertIs(is_above((10 ** 17 + 2, 10 ** 17 + 1), (10 ** 17 + 1, 10 ** 17)), False)

    def test_some_by_chance(self):
        chance = random.Random(9)
        for turn in range(300):
            one, other = [fraction(chance.randrange(30), chance.randrange(1, 9)) for part in range(2)]
            self.assertIs(is_above(one, other), plain(one) > plain(other))


if __name__ == "__main__":
    unittest.main()
