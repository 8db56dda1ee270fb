import random
import unittest

from stemshelf.blocks import sum_of
from stemshelf.boards import Boards
from stemshelf.contents import content_at, put_content
from stemshelf.cutting import groups_of, pieces_of
from stemshelf.errors import Lost
from stemshelf.pool import Pool

SIGNS = [chr(code) for code in range(32, 127) if chr(code) != "%"]


def some_content(chance, many, signs=SIGNS):
    return "".join(chance.choice(signs) for sign in range(many))


def top_due(content):
    """A content's top without a pool: (level, parts, sum), a piece a text."""
    parts = [(piece, sum_of((0, piece))) for piece in pieces_of(content)]
    level = 0
    while level == 0 or len(parts) > 1:
        level += 1
        rows = []
        for many in groups_of([part[-1] for part in parts]) or [0]:
            group, parts = tuple(parts[:many]), parts[many:]
            tags = tuple((1, 0, part[-1]) for part in group)
            rows.append((level, group, sum_of((1, level, tags))))
        parts = rows
    return parts[0]


def top_found(pool, tag):
    """The same as it lies in a pool."""
    block = pool.block(tag)
    if block[0] == 0:
        return (block[1], tag[2])
    return (block[1], tuple(top_found(pool, under) for under in block[2]), tag[2])


def by_pairs(chance, levels, is_last):
    """A content of pieces of two signs that are grouped by twos up to a level, and the sum of its one row there."""
    while True:
        if levels == 0:
            content = chance.choice(SIGNS) + chance.choice(SIGNS)
            if pieces_of(content + "!") == [content, "!"]:
                total = sum_of((0, content))
            else:
                continue
        else:
            one, first = by_pairs(chance, levels - 1, False)
            other, second = by_pairs(chance, levels - 1, True)
            content = one + other
            total = sum_of((1, levels, ((1, 0, first), (1, 0, second))))
        if not is_last or total % 3 == 0:
            return content, total


def deepest_content():
    """Of 130 pieces grouped by twos wherever that can be: 65, 33, 17, 9, 5, 3, 2, 1 rows, so eight levels."""
    chance = random.Random(1)
    return by_pairs(chance, 7, False)[0] + by_pairs(chance, 1, False)[0]


def spoil_both(boards, number):
    for board in boards.twins(number):
        boards.spoil(board, number, None)


def state(pool):
    return [(number, pool.tag(number), pool.size(number), pool.count(number), pool.tags(number))
            for number in pool.numbers()]


class ContentTest(unittest.TestCase):
    def setUp(self):
        self.boards = Boards(3)
        self.pool = Pool(self.boards)

    def put(self, content, birth=0):
        return put_content(self.pool, content, birth)

    def contents(self):
        chance = random.Random(5)
        yield from ("", " ", "a", "ab", "oak", "aaaaaaaa", "aaaaaaaaa", "~" * 400, " " * 400, "ab" * 200)
        for many in (1, 2, 3, 7, 8, 9, 16, 17, 50, 100, 200, 399, 400):
            yield some_content(chance, many)
            yield some_content(chance, many, "ab")
        yield deepest_content()


class PutTest(ContentTest):
    def test_the_empty_content(self):
        tag = self.put("", 6)
        self.assertEqual(self.pool.block(tag), (1, 1, ()))
        self.assertEqual(tag[1:], (6, sum_of((1, 1, ()))))
        self.assertEqual(self.pool.numbers(), [tag[0]])
        self.assertEqual(content_at(self.pool, tag), "")

    def test_one_piece(self):
        for content in ("a", " ", "ab", "aaaaaaaa"):
            self.assertEqual(pieces_of(content), [content])
            tag = self.put(content, 3)
            level, tags = self.pool.block(tag)[1:]
            self.assertEqual((level, len(tags)), (1, 1))
            self.assertEqual(self.pool.block(tags[0]), (0, content))
            self.assertEqual((tag[1], tags[0][1]), (3, 3))
            self.assertEqual(self.pool.count(tag[0]), 0)

    def test_one_row_of_several_pieces(self):
        # blank and blank come to 0: a piece ends behind each second one; their sum, 31 * 32 + 1, is 993, three times 331
        self.assertEqual(pieces_of("    "), ["  ", "  "])
        piece = (0, "  ")
        tag = self.put("    ")
        one = self.pool.put(piece, 0)
        self.assertEqual(one[2], 993)
        self.assertEqual(self.pool.block(tag), (1, 1, (one, one)))
        self.assertEqual(len(self.pool.numbers()), 2)
        self.assertEqual(self.pool.count(one[0]), 2)

    def test_two_levels(self):
        tag = self.put("      ")
        piece = self.pool.put((0, "  "), 0)
        two, one = self.pool.put((1, 1, (piece, piece)), 0), self.pool.put((1, 1, (piece,)), 0)
        self.assertEqual(self.pool.block(tag), (1, 2, (two, one)))
        self.assertEqual(len(self.pool.numbers()), 4)

    def test_pieces_rows_and_levels_as_told(self):
        for content in self.contents():
            with self.subTest(content):
                self.assertEqual(top_found(self.pool, self.put(content)), top_due(content))

    def test_as_many_levels_as_400_signs_give(self):
        content = deepest_content()
        self.assertEqual([len(piece) for piece in pieces_of(content)], [2] * 130)
        tag = self.put(content)
        self.assertEqual(self.pool.block(tag)[1], 8)
        self.assertEqual(content_at(self.pool, tag), content)
        levels = []
        while tag[0] and self.pool.block(tag)[0] == 1:
            levels.append(self.pool.block(tag)[1])
            tag = self.pool.block(tag)[2][0]
        self.assertEqual(levels, [8, 7, 6, 5, 4, 3, 2, 1])

    def test_nothing_else_is_taken(self):
        for content in self.contents():
            pool = Pool(Boards(2))
            tag = put_content(pool, content, 0)
            pool.hold(tag)
            ahead = state(pool)
            pool.sweep()
            self.assertEqual(state(pool), ahead)
            pool.release(tag)
            self.assertEqual(pool.numbers(), [])

    def test_no_write_is_done(self):
        self.boards.stop(0)
        tag = self.put("some content of some length")
        content_at(self.pool, tag)
        self.assertEqual(self.boards.written(), 0)

    def test_somewhat_more_than_400_signs_are_not_refused(self):
        content = some_content(random.Random(2), 420)
        tag = self.put(content)
        self.pool.lay_draft()
        self.assertEqual(content_at(self.pool, tag), content)


class AlikeTest(ContentTest):
    def test_there_and_back(self):
        for content in self.contents():
            tag = self.put(content)
            self.assertEqual(content_at(self.pool, tag), content)
            self.pool.lay_draft()
            self.assertEqual(content_at(self.pool, tag), content)

    def test_put_twice_and_put_again_behind_the_draft_being_laid(self):
        tags = {}
        for content in self.contents():
            tags[content] = self.put(content, 1)
            ahead = state(self.pool)
            self.assertEqual(self.put(content, 2), tags[content])
            self.pool.lay_draft()
            self.assertEqual(self.put(content, 3), tags[content])
            self.assertEqual(state(self.pool), ahead)
        written = self.boards.written()
        for content, tag in tags.items():
            self.assertEqual(self.put(content, 4), tag)
            self.assertEqual(content_at(self.pool, tag), content)
        self.pool.lay_draft()
        self.assertEqual(self.boards.written(), written)
        self.assertEqual(len(set(tags.values())), len(tags))

    def test_unlike_in_one_sign(self):
        chance = random.Random(8)
        for many in (1, 5, 40, 400):
            content = some_content(chance, many, "ab ")
            tag = self.put(content)
            others = {content: tag}
            for turn in range(30):
                place = chance.randrange(many)
                other = content[:place] + chance.choice(SIGNS) + content[place + 1:]
                shorter, longer = content[:place] + content[place + 1:], content[:place] + "a" + content[place:]
                for unlike in (other, shorter, longer):
                    others[unlike] = self.put(unlike)
            self.assertEqual(len(set(others.values())), len(others))
            for unlike, own in others.items():
                self.assertEqual(content_at(self.pool, own), unlike)

    def test_unlike_pieces_of_one_sum(self):
        self.assertEqual(sum_of((0, " @")), sum_of((0, "! ")))
        one, other = self.put(" @"), self.put("! ")
        self.assertEqual(one[2], other[2])
        self.assertNotEqual(one, other)
        self.assertEqual((content_at(self.pool, one), content_at(self.pool, other)), (" @", "! "))

    def test_alike_pieces_are_one_block(self):
        tag = self.put("ab" * 30)
        pieces = [number for number in self.pool.numbers() if self.pool.tags(number) == []]
        self.assertEqual(len(pieces), len(set(pieces_of("ab" * 30))))
        self.assertEqual(content_at(self.pool, tag), "ab" * 30)

    def test_what_is_changed_in_the_middle_leaves_the_rest_alike(self):
        content = some_content(random.Random(3), 300)
        self.put(content)
        taken = len(self.pool.numbers())
        self.put(content[:150] + "x" + content[150:])
        self.assertLess(len(self.pool.numbers()) - taken, taken // 2)


class LostTest(ContentTest):
    def setUp(self):
        ContentTest.setUp(self)
        self.content = some_content(random.Random(4), 90)
        self.top = self.put(self.content, 1)
        self.pool.hold(self.top)
        self.other = self.put("another one", 1)
        self.pool.hold(self.other)
        self.pool.lay_draft()

    def lost_by(self, deed):
        with self.assertRaises(Lost) as caught:
            deed()
        return caught.exception.number

    def beneath(self, tag):
        numbers = {tag[0]}
        for below in self.pool.tags(tag[0]):
            numbers |= self.beneath(below)
        return numbers

    def test_each_block_of_a_content_in_turn(self):
        own = self.beneath(self.top)
        self.assertGreater(len(own), 20)
        for number in self.pool.numbers():
            rows = [(board, self.boards.cell(board, number)) for board in self.boards.twins(number)]
            ahead = state(self.pool)
            self.boards.spoil(rows[0][0], number, [1])
            self.assertEqual(content_at(self.pool, self.top), self.content)
            self.boards.spoil(rows[1][0], number, None)
            cells = self.cells()
            if number in own:
                self.assertEqual(self.lost_by(lambda: content_at(self.pool, self.top)), number)
            else:
                self.assertEqual(content_at(self.pool, self.top), self.content)
            self.assertEqual((state(self.pool), self.cells()), (ahead, cells))
            for board, row in rows:
                self.boards.spoil(board, number, row)

    def cells(self):
        return [self.boards.cell(board, number) for board in range(3) for number in range(60)]

    def test_a_content_whose_piece_is_lost_can_not_be_put(self):
        piece = self.pool.put((0, pieces_of(self.content)[2]), 1)
        spoil_both(self.boards, piece[0])
        ahead = state(self.pool)
        cells = self.cells()
        self.assertEqual(self.lost_by(lambda: self.put(self.content, 2)), piece[0])
        self.assertEqual((state(self.pool), self.cells()), (ahead, cells))

    def test_those_put_ahead_of_a_lost_one_stay_taken_counted_0(self):
        piece = self.pool.put((0, pieces_of(self.content)[0]), 1)
        spoil_both(self.boards, piece[0])
        ahead = state(self.pool)
        content = "  " + pieces_of(self.content)[0]
        self.assertEqual(self.lost_by(lambda: self.put(content, 2)), piece[0])
        more = [number for number in self.pool.numbers() if number not in [one[0] for one in ahead]]
        self.assertEqual([(self.pool.block(self.pool.tag(number)), self.pool.count(number)) for number in more],
                         [((0, "  "), 0)])
        self.pool.sweep()
        self.assertEqual(state(self.pool), ahead)


if __name__ == "__main__":
    unittest.main()
