import random
import unittest

from stemshelf.cutting import groups_of, pieces_of

SIGNS = [chr(code) for code in range(32, 127) if chr(code) != "%"]


def due_pieces(content):
    """Cut by the words of the document alone, without the program's own parts."""
    pieces = []
    begin = 0
    for place in range(len(content)):
        many = place - begin + 1
        by_rule = many >= 2 and (SIGNS.index(content[place]) + 7 * SIGNS.index(content[place - 1])) % 5 == 0
        if by_rule or many == 8 or place == len(content) - 1:
            pieces.append(content[begin:place + 1])
            begin = place + 1
    return pieces


def some_contents():
    chance = random.Random(6)
    for turn in range(300):
        signs = chance.choice(("ab", "abcde", " &~", "aeh", "".join(SIGNS)))
        yield "".join(chance.choice(signs) for place in range(chance.randrange(60)))
    yield "".join(chance.choice(SIGNS) for place in range(400))
    yield "".join(chance.choice("aeh") for place in range(400))


class PiecesTest(unittest.TestCase):
    def test_the_empty_content(self):
        self.assertEqual(pieces_of(""), [])

    def test_one_sign(self):
        for sign in SIGNS:
            self.assertEqual(pieces_of(sign), [sign])

    def test_one_sign_again_and_again(self):
        # 8 times the number of "a" (64) is no multiple of 5, of "b" (65) and the blank (0) it is
        self.assertEqual(pieces_of("a" * 7), ["a" * 7])
        self.assertEqual(pieces_of("a" * 8), ["a" * 8])
        self.assertEqual(pieces_of("a" * 9), ["a" * 8, "a"])
        self.assertEqual(pieces_of("a" * 400), ["a" * 8] * 50)
        self.assertEqual(pieces_of("b" * 9), ["bb"] * 4 + ["b"])
        self.assertEqual(pieces_of(" " * 400), ["  "] * 200)

    def test_an_end_by_the_rule_at_the_second_sign(self):
        # 64 times 7 and the 67 of "d" come to 515
        self.assertEqual(pieces_of("ad"), ["ad"])
        self.assertEqual(pieces_of("ada"), ["ad", "a"])
        self.assertEqual(pieces_of("adaaa"), ["ad", "aaa"])

    def test_an_end_by_the_rule_further_on(self):
        self.assertEqual(pieces_of("aad" + "aa"), ["aad", "aa"])
        self.assertEqual(pieces_of("aaaaaad" + "aa"), ["aaaaaad", "aa"])

    def test_an_end_by_the_rule_at_the_eighth_sign(self):
        self.assertEqual(pieces_of("aaaaaaad"), ["aaaaaaad"])
        self.assertEqual(pieces_of("aaaaaaada"), ["aaaaaaad", "a"])

    def test_the_sign_ahead_counts_seven_times_and_not_the_other(self):
        # 67 times 7 and 64 come to 533
        self.assertEqual(pieces_of("daa"), ["daa"])

    def test_the_sign_ahead_of_a_piece_plays_no_part(self):
        self.assertEqual(pieces_of("bbba"), ["bb", "ba"])
        self.assertEqual(pieces_of("aaaaaaaada"), ["aaaaaaaa", "da"])

    def test_what_lies_behind_an_end_is_cut_as_if_it_stood_alone(self):
        for content in some_contents():
            pieces = pieces_of(content)
            for many in range(len(pieces)):
                self.assertEqual(pieces_of("".join(pieces[many:])), pieces[many:])

    def test_by_the_words_of_the_document(self):
        for content in some_contents():
            self.assertEqual(pieces_of(content), due_pieces(content))

    def test_a_content_beyond_the_bound_is_not_refused(self):
        self.assertEqual(pieces_of("a" * 401), ["a" * 8] * 50 + ["a"])

    def test_each_time_a_new_list(self):
        told = pieces_of("adad")
        told.append("x")
        self.assertEqual(pieces_of("adad"), ["ad", "ad"])


class GroupsTest(unittest.TestCase):
    def test_no_sums(self):
        self.assertEqual(groups_of([]), [])

    def test_one_sum(self):
        self.assertEqual(groups_of([1]), [1])
        self.assertEqual(groups_of([3]), [1])
        self.assertEqual(groups_of([0]), [1])

    def test_two_with_a_multiple_of_three(self):
        self.assertEqual(groups_of([1, 3]), [2])
        self.assertEqual(groups_of([3, 3]), [2])
        self.assertEqual(groups_of([1, 0]), [2])
        self.assertEqual(groups_of([1, 3, 1]), [2, 1])
        self.assertEqual(groups_of([1, 996, 2, 0, 6, 9]), [2, 2, 2])

    def test_the_first_of_a_group_ends_none(self):
        self.assertEqual(groups_of([3, 1, 1]), [3])
        self.assertEqual(groups_of([1, 3, 3, 1, 1]), [2, 3])

    def test_further_on(self):
        self.assertEqual(groups_of([1, 2, 4, 6, 1]), [4, 1])
        self.assertEqual(groups_of([1, 1, 1, 1, 1, 1, 3, 1]), [7, 1])

    def test_eight_without(self):
        self.assertEqual(groups_of([1] * 7), [7])
        self.assertEqual(groups_of([1] * 8), [8])
        self.assertEqual(groups_of([1] * 9), [8, 1])
        self.assertEqual(groups_of([1] * 16 + [3, 3]), [8, 8, 2])
        self.assertEqual(groups_of([1] * 7 + [3, 1]), [8, 1])

    def test_an_end_at_the_lists_end(self):
        self.assertEqual(groups_of([1, 3, 1, 1]), [2, 2])
        self.assertEqual(groups_of([1, 1, 3]), [3])

    def test_what_is_handed_in_stays_and_what_is_told_is_new(self):
        sums = [1, 3, 1]
        told = groups_of(sums)
        told.append(9)
        self.assertEqual(sums, [1, 3, 1])
        self.assertEqual(groups_of(sums), [2, 1])


if __name__ == "__main__":
    unittest.main()
