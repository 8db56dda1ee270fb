import random
import unittest

from stemshelf.blocks import size_of, sum_of, tags_in
from stemshelf.boards import Boards
from stemshelf.copies import fetched, right_copies
from stemshelf.errors import Lost, Stopped
from stemshelf.marks import sealed
from stemshelf.pool import Pool
from stemshelf.things import words_of

# Two unlike pieces of one sum: 31 * 32 + 32 is 31 * 33 + 1
ONE, OTHER = (0, " @"), (0, "! ")
SIGNS = [chr(code) for code in range(32, 127) if chr(code) != "%"]


def spoil_both(boards, number):
    for board in boards.twins(number):
        boards.spoil(board, number, None)


def number_of_lost(case, deed):
    with case.assertRaises(Lost) as caught:
        deed()
    return caught.exception.number


def state(pool):
    return [(number, pool.tag(number), pool.size(number), pool.count(number), pool.tags(number), pool.entries(number),
             pool.deep(number)) for number in pool.numbers()]


class PoolTest(unittest.TestCase):
    def setUp(self):
        self.boards = Boards(3)
        self.pool = Pool(self.boards)

    def put(self, block, birth=0):
        return self.pool.put(block, birth)

    def row(self, *tags):
        return self.put((1, 1, tags))


class PutTest(PoolTest):
    def test_nothing_is_taken_at_first(self):
        self.assertEqual(self.pool.numbers(), [])
        self.pool.sweep()
        self.pool.lay_draft()
        self.assertEqual(self.pool.numbers(), [])
        self.assertEqual(self.boards.written(), 0)

    def test_a_new_block(self):
        tag = self.put((0, "oak"), 17)
        self.assertTrue(1 <= tag[0] <= 999999)
        self.assertEqual(tag[1:], (17, sum_of((0, "oak"))))
        self.assertEqual(self.pool.numbers(), [tag[0]])
        self.assertEqual(self.pool.tag(tag[0]), tag)
        self.assertEqual(self.pool.size(tag[0]), 9)
        self.assertEqual(self.pool.count(tag[0]), 0)
        self.assertEqual(self.pool.tags(tag[0]), [])
        self.assertEqual(self.pool.block(tag), (0, "oak"))

    def test_it_is_on_no_board(self):
        tag = self.put((0, "oak"))
        self.assertEqual(right_copies(self.boards, tag), [])
        self.assertEqual(self.boards.written(), 0)

    def test_an_alike_block_gets_the_same_tag_ahead_of_the_draft_being_laid_and_behind(self):
        for block in ((0, "oak"), (1, 1, ()), (2, ())):
            tag = self.put(block, 4)
            self.assertEqual(self.put(block, 4), tag)
            self.assertEqual(self.put(block, 9), tag)
            self.pool.lay_draft()
            self.assertEqual(self.put(block, 9), tag)
            self.assertEqual(self.pool.count(tag[0]), 0)
        self.assertEqual(len(self.pool.numbers()), 3)
        written = self.boards.written()
        self.pool.lay_draft()
        self.assertEqual(self.boards.written(), written)

    def test_an_alike_block_counts_nothing_anew(self):
        piece = self.put((0, "oak"))
        row = self.row(piece, piece)
        self.assertEqual(self.row(piece, piece), row)
        self.assertEqual(self.pool.count(piece[0]), 2)

    def test_unlike_blocks_get_unlike_numbers(self):
        tags = [self.put((0, sign)) for sign in "abcdefgh"]
        self.assertEqual(len(set(tag[0] for tag in tags)), 8)
        self.assertEqual(self.pool.numbers(), sorted(tag[0] for tag in tags))

    def test_unlike_blocks_of_one_sum_get_unlike_tags(self):
        one, other = self.put(ONE), self.put(OTHER)
        self.assertEqual(one[2], other[2])
        self.assertNotEqual(one[0], other[0])
        self.pool.lay_draft()
        for block, tag in ((ONE, one), (OTHER, other)):
            self.assertEqual(self.put(block, 5), tag)
            self.assertEqual(self.pool.block(tag), block)

    def test_blocks_that_differ_in_tags_alone_are_unlike(self):
        one, other = self.put(ONE), self.put(OTHER)
        first, second = self.row(one), self.row(other)
        self.assertEqual(first[2], second[2])
        self.assertNotEqual(first[0], second[0])

    def test_what_was_freed_is_put_anew(self):
        tag = self.put((0, "oak"), 1)
        self.pool.lay_draft()
        self.pool.sweep()
        anew = self.put((0, "oak"), 2)
        self.assertEqual(anew[1:], (2, tag[2]))
        self.assertEqual(self.pool.block(anew), (0, "oak"))

    def test_no_taken_number_is_given_again(self):
        tags = [self.put((0, sign)) for sign in "abcdef"]
        for tag in tags:
            self.pool.hold(tag)
        for turn, tag in enumerate(tags):
            self.pool.release(tag)
            self.put((0, "new" + str(turn)))
            more = self.put((0, "more" + str(turn)))
            self.assertEqual(self.pool.block(more), (0, "more" + str(turn)))
            self.assertEqual(len(self.pool.numbers()), 6 + turn + 1)


class LostTest(PoolTest):
    def setUp(self):
        PoolTest.setUp(self)
        self.blocks = self.of_one_sum()
        self.tags = [self.put(block) for block in self.blocks[:4]]
        self.pool.lay_draft()

    def of_one_sum(self):
        texts = [one + other + more for one in "abcd" for other in SIGNS for more in SIGNS]
        return [(0, text) for text in texts if sum_of((0, text)) == 77][:6]

    def test_the_blocks_have_one_sum(self):
        self.assertEqual(len(set(self.blocks)), 6)
        self.assertEqual(len(set(tag[2] for tag in self.tags)), 1)

    def test_a_block_that_can_not_be_read(self):
        spoil_both(self.boards, self.tags[1][0])
        self.assertEqual(number_of_lost(self, lambda: self.pool.block(self.tags[1])), self.tags[1][0])
        self.assertEqual(self.pool.block(self.tags[0]), self.blocks[0])

    def test_it_is_read_each_time(self):
        number = self.tags[0][0]
        first, second = self.boards.twins(number)
        row = self.boards.cell(first, number)
        self.assertEqual(self.pool.block(self.tags[0]), self.blocks[0])
        self.boards.spoil(first, number, [1])
        self.assertEqual(self.pool.block(self.tags[0]), self.blocks[0])
        self.boards.spoil(second, number, [1])
        self.assertEqual(number_of_lost(self, lambda: self.pool.block(self.tags[0])), number)
        self.boards.spoil(first, number, row)
        self.assertEqual(self.pool.block(self.tags[0]), self.blocks[0])
        self.boards.spoil(first, number, sealed(words_of((number, 0, self.blocks[5]))))
        self.assertEqual(self.pool.block(self.tags[0]), self.blocks[5])
        self.assertEqual(self.put(self.blocks[5]), self.tags[0])

    def test_one_copy_is_enough(self):
        for tag in self.tags:
            self.boards.spoil(self.boards.twins(tag[0])[0], tag[0], None)
        self.assertEqual(self.put(self.blocks[2]), self.tags[2])
        self.assertNotIn(self.put(self.blocks[4]), self.tags)

    def test_an_alike_one_that_can_be_read_goes_first(self):
        for tag in self.tags[:3]:
            spoil_both(self.boards, tag[0])
        self.assertEqual(self.put(self.blocks[3]), self.tags[3])

    def test_an_alike_one_in_the_draft_goes_first(self):
        tag = self.put(self.blocks[4])
        for other in self.tags:
            spoil_both(self.boards, other[0])
        self.assertEqual(self.put(self.blocks[4]), tag)

    def test_else_refused_with_the_least_number(self):
        numbers = sorted(tag[0] for tag in self.tags)
        for spoilt in ([numbers[3]], [numbers[1], numbers[2]], [numbers[2], numbers[0], numbers[3]]):
            boards = self.boards.again()
            for number in spoilt:
                spoil_both(self.boards, number)
            ahead = state(self.pool)
            self.assertEqual(number_of_lost(self, lambda: self.put(self.blocks[4])), min(spoilt))
            self.assertEqual(state(self.pool), ahead)
            for number in spoilt:
                for board in boards.twins(number):
                    self.boards.spoil(board, number, boards.cell(board, number))
        self.put(self.blocks[4])

    def test_the_least_number_in_whatever_turn_they_were_put(self):
        pool = Pool(self.boards)
        first = pool.put((0, "oak"), 0)
        pool.hold(first)
        tags = [pool.put(self.blocks[0], 0)]
        pool.release(first)
        tags.append(pool.put(self.blocks[1], 0))
        pool.lay_draft()
        for tag in tags:
            spoil_both(self.boards, tag[0])
        least = min(tag[0] for tag in tags)
        self.assertEqual(number_of_lost(self, lambda: pool.put(self.blocks[2], 0)), least)

    def test_the_alike_one_itself_can_not_be_read(self):
        spoil_both(self.boards, self.tags[2][0])
        self.assertEqual(number_of_lost(self, lambda: self.put(self.blocks[2])), self.tags[2][0])

    def test_one_of_another_size_but_the_same_sum(self):
        texts = [one + other + "abcd" for one in SIGNS for other in SIGNS]
        piece = [(0, text) for text in texts if sum_of((0, text)) == 77][0]
        spoil_both(self.boards, self.tags[0][0])
        self.assertEqual(number_of_lost(self, lambda: self.put(piece)), self.tags[0][0])

    def test_another_sum_plays_no_part(self):
        for tag in self.tags:
            spoil_both(self.boards, tag[0])
        self.assertEqual(self.put((0, "oak"))[2], sum_of((0, "oak")))

    def test_a_freed_one_plays_no_part(self):
        for tag in self.tags:
            spoil_both(self.boards, tag[0])
        self.pool.sweep()
        tag = self.put(self.blocks[0], 3)
        self.assertEqual(tag[1:], (3, 77))
        self.assertEqual(self.pool.block(tag), self.blocks[0])

    def test_those_put_ahead_of_a_refused_one_stay_taken(self):
        tag = self.put((0, "oak"))
        spoil_both(self.boards, self.tags[0][0])
        number_of_lost(self, lambda: self.put(self.blocks[0]))
        self.assertEqual(self.pool.count(tag[0]), 0)
        self.assertEqual(self.pool.block(tag), (0, "oak"))

    def test_what_is_known_is_told_of_lost_ones_too(self):
        folder = self.put((2, (("a", 1, self.tags[0]),)))
        self.pool.lay_draft()
        ahead = state(self.pool)
        for board in range(3):
            self.boards.lose(board)
        self.assertEqual(state(self.pool), ahead)
        self.pool.hold(folder)
        self.pool.release(folder)
        self.pool.sweep()
        self.assertEqual(self.pool.numbers(), [])


class CountTest(PoolTest):
    def counts(self, *tags):
        return [self.pool.count(tag[0]) for tag in tags]

    def test_holds_and_releases(self):
        tag = self.put((0, "oak"))
        for due in (1, 2, 3):
            self.pool.hold(tag)
            self.assertEqual(self.counts(tag), [due])
        for due in (2, 1):
            self.pool.release(tag)
            self.assertEqual(self.counts(tag), [due])
        self.pool.release(tag)
        self.assertEqual(self.pool.numbers(), [])

    def test_tags_of_taken_blocks(self):
        one, other = self.put((0, "oak")), self.put((0, "elm"))
        row = self.row(one, other, one)
        self.assertEqual(self.counts(one, other, row), [2, 1, 0])
        self.put((2, (("a", 1, row), ("b", 1, row))))
        self.assertEqual(self.counts(one, other, row), [2, 1, 2])
        self.pool.hold(one)
        self.assertEqual(self.counts(one, other, row), [3, 1, 2])
        self.row(one)
        self.assertEqual(self.counts(one, other, row), [4, 1, 2])

    def test_what_is_freed_in_turn(self):
        one, other = self.put((0, "oak")), self.put((0, "elm"))
        row = self.row(one, other, one)
        folder = self.put((2, (("a", 1, row),)))
        root = self.put((2, (("f", 2, folder), ("g", 2, folder))))
        self.pool.hold(other)
        self.pool.hold(root)
        self.pool.hold(root)
        self.pool.release(root)
        self.assertEqual(len(self.pool.numbers()), 5)
        self.pool.release(root)
        self.assertEqual(self.pool.numbers(), [other[0]])
        self.assertEqual(self.counts(other), [1])

    def test_what_is_named_elsewhere_stays(self):
        one, other = self.put((0, "oak")), self.put((0, "elm"))
        both, alone = self.row(one, other, one), self.row(one)
        for tag in (both, alone):
            self.pool.hold(tag)
        self.pool.release(both)
        self.assertEqual(self.pool.numbers(), sorted([one[0], alone[0]]))
        self.assertEqual(self.counts(one, alone), [1, 1])

    def test_a_release_frees_nothing_else_that_is_counted_0(self):
        one, other = self.put((0, "oak")), self.put((0, "elm"))
        self.pool.hold(one)
        self.pool.release(one)
        self.assertEqual(self.pool.numbers(), [other[0]])

    def test_sweep(self):
        one, other, more = self.put((0, "oak")), self.put((0, "elm")), self.put((0, "ash"))
        row, held = self.row(one, one, other), self.row(other)
        self.pool.hold(held)
        self.assertEqual(self.counts(one, other, more, row, held), [2, 2, 0, 0, 1])
        self.pool.sweep()
        self.assertEqual(self.pool.numbers(), sorted([other[0], held[0]]))
        self.assertEqual(self.counts(other, held), [1, 1])
        self.pool.sweep()
        self.assertEqual(self.counts(other, held), [1, 1])

    def test_sweep_in_turn(self):
        tag = self.put((2, ()))
        for step in range(2000):
            tag = self.put((2, (("a", 2, tag), ("b", 2, tag))))
        self.pool.sweep()
        self.assertEqual(self.pool.numbers(), [])

    def test_release_in_turn_of_a_long_chain(self):
        tag = self.put((2, ()))
        for step in range(2000):
            tag = self.put((2, (("a", 2, tag), ("b", 2, tag))))
        self.pool.hold(tag)
        self.pool.release(tag)
        self.assertEqual(self.pool.numbers(), [])


class DraftTest(PoolTest):
    def test_laid_on_both_twins_and_empty_then(self):
        tags = [self.put((0, sign), birth) for birth, sign in enumerate("abcde")]
        self.pool.lay_draft()
        for tag, sign in zip(tags, "abcde"):
            self.assertEqual(right_copies(self.boards, tag), sorted(self.boards.twins(tag[0])))
            self.assertEqual(fetched(self.boards, tag), (0, sign))
        self.assertEqual(self.boards.written(), 10)
        self.pool.lay_draft()
        self.assertEqual(self.boards.written(), 10)

    def test_what_is_laid_is_not_kept(self):
        tag = self.put((0, "oak"))
        spoil_both(self.boards, tag[0])
        self.assertEqual(self.pool.block(tag), (0, "oak"))
        self.pool.lay_draft()
        spoil_both(self.boards, tag[0])
        self.assertEqual(number_of_lost(self, lambda: self.pool.block(tag)), tag[0])

    def test_laid_by_rising_numbers(self):
        for stop in range(13):
            boards = Boards(3)
            pool = Pool(boards)
            for sign in "dbca":
                pool.hold(pool.put((0, sign), 0))
            # what is put in the place of a freed one comes late, perhaps with a small number
            pool.release(pool.put((0, "b"), 0))
            for sign in "xyz":
                pool.put((0, sign), 1)
            boards.stop(stop)
            try:
                pool.lay_draft()
            except Stopped:
                pass
            places = [(number, board) for number in pool.numbers() for board in boards.twins(number)]
            laid = [boards.cell(board, number) is not None for number, board in places]
            self.assertEqual(laid, [place < stop for place in range(12)])

    def test_a_stopped_draft_is_laid_later(self):
        tags = [self.put((0, sign)) for sign in "abc"]
        for stop in range(6):
            self.boards.stop(stop)
            with self.assertRaises(Stopped):
                self.pool.lay_draft()
            for tag, sign in zip(tags, "abc"):
                self.assertEqual(self.pool.block(tag), (0, sign))
        self.boards.stop(None)
        self.pool.lay_draft()
        for tag in tags:
            self.assertEqual(right_copies(self.boards, tag), sorted(self.boards.twins(tag[0])))

    def test_a_freed_block_is_out_of_the_draft(self):
        kept = self.put((0, "oak"))
        self.pool.hold(kept)
        swept = self.put((0, "elm"))
        self.pool.sweep()
        released = self.put((1, 1, (kept, self.put((0, "ash")))))
        self.pool.hold(released)
        self.pool.release(released)
        self.assertEqual(self.pool.numbers(), [kept[0]])
        self.pool.lay_draft()
        self.assertEqual(self.boards.written(), 2)
        self.assertEqual(right_copies(self.boards, swept), [])
        self.assertEqual(len(right_copies(self.boards, kept)), 2)

    def test_no_write_is_done_but_by_lay_draft(self):
        self.boards.stop(0)
        one, other = self.put(ONE), self.put(OTHER)
        self.put(ONE, 5)
        row = self.row(one, other)
        self.pool.block(row)
        self.pool.hold(row)
        self.pool.release(row)
        self.put((2, ()))
        self.pool.sweep()
        state(self.pool)
        self.assertEqual(self.boards.written(), 0)


class FolderTest(PoolTest):
    def check(self, tag, entries, deep):
        self.assertEqual((self.pool.entries(tag[0]), self.pool.deep(tag[0])), (entries, deep))

    def test_what_is_no_folder(self):
        piece = self.put((0, "oak"))
        row = self.row(piece)
        upper = self.put((1, 2, (row,)))
        for tag in (piece, row, upper, self.row()):
            self.check(tag, 0, 0)

    def test_folders_in_folders(self):
        file = self.row()
        empty = self.put((2, ()))
        self.check(empty, 0, 0)
        flat = self.put((2, (("a", 1, file), ("b", 1, file))))
        self.check(flat, 2, 1)
        with_empty = self.put((2, (("a", 2, empty),)))
        self.check(with_empty, 1, 1)
        deeper = self.put((2, (("a", 1, file), ("b", 2, flat), ("c", 2, flat))))
        self.check(deeper, 3 + 2 + 2, 2)
        deepest = self.put((2, (("a", 2, deeper), ("b", 2, empty), ("c", 2, with_empty), ("d", 1, file))))
        self.check(deepest, 4 + 7 + 0 + 1, 3)

    def test_eight_deep(self):
        tag = self.put((2, ()))
        for deep in range(1, 12):
            tag = self.put((2, (("a", 2, tag),)))
            self.check(tag, deep, deep)

    def test_counted_at_each_path(self):
        tag = self.put((2, ()))
        entries = 0
        for deep in range(1, 40):
            tag = self.put((2, (("a", 2, tag), ("b", 2, tag))))
            entries = 2 + 2 * entries
            self.check(tag, entries, deep)


class ToldTest(PoolTest):
    def test_numbers_tags_sizes_and_tags_in_turn(self):
        one, other = self.put((0, "oak"), 3), self.put((0, "sycamore"), 4)
        row = self.put((1, 1, (other, one, other)), 5)
        root = self.put((2, (("a", 1, row), ("b", 1, row), ("c", 1, self.row()))), 6)
        empty = self.row()
        for turn in range(2):
            self.assertEqual(self.pool.numbers(), sorted(tag[0] for tag in (one, other, row, root, empty)))
            for tag in (one, other, row, root, empty):
                self.assertEqual(self.pool.tag(tag[0]), tag)
                self.assertEqual(self.pool.size(tag[0]), size_of(self.pool.block(tag)))
            self.assertEqual(self.pool.size(other[0]), 14)
            self.assertEqual(self.pool.size(row[0]), 32)
            self.assertEqual(self.pool.tags(one[0]), [])
            self.assertEqual(self.pool.tags(row[0]), [other, one, other])
            self.assertEqual(self.pool.tags(root[0]), [row, row, empty])
            self.assertEqual([tag[1] for tag in (one, other, row, root)], [3, 4, 5, 6])
            self.pool.lay_draft()

    def test_told_lists_are_the_askers_own(self):
        one = self.put((0, "oak"))
        row = self.row(one, one)
        self.pool.numbers().append(99)
        self.pool.numbers().clear()
        self.pool.tags(row[0]).append(row)
        self.pool.tags(one[0]).append(row)
        self.assertEqual(self.pool.numbers(), sorted([one[0], row[0]]))
        self.assertEqual(self.pool.tags(row[0]), [one, one])
        self.assertEqual(self.pool.tags(one[0]), [])
        self.pool.hold(row)
        self.pool.release(row)
        self.assertEqual(self.pool.numbers(), [])


class Model:
    """A pool that counts everything anew each time."""

    def __init__(self):
        self.taken = {}
        self.held = {}
        self.draft = set()

    def count(self, number):
        named = [tag[0] for own, block in self.taken.values() for tag in tags_in(block)]
        return named.count(number) + self.held.get(number, 0)

    def free(self, number):
        block = self.taken.pop(number)[1]
        self.draft.discard(number)
        for tag in tags_in(block):
            if tag[0] in self.taken and self.count(tag[0]) == 0:
                self.free(tag[0])

    def sweep(self):
        for number in [number for number in self.taken if self.count(number) == 0]:
            self.free(number)

    def reach(self, number):
        """All paths in a folder, or none."""
        block = self.taken[number][1]
        if block[0] != 2:
            return []
        paths = []
        for name, kind, tag in block[1]:
            paths.append((name,))
            paths.extend((name,) + path for path in (self.reach(tag[0]) if kind == 2 else ()))
        return paths


class ManyDeedsTest(unittest.TestCase):
    def some_block(self, chance, model):
        tags = [tag for tag, block in model.taken.values()]
        folders = [tag for tag, block in model.taken.values() if block[0] == 2]
        kind = chance.randrange(3)
        if kind == 0 or not tags:
            return (0, "".join(chance.choice("!@ ab") for sign in range(chance.randrange(1, 4))))
        if kind == 1:
            return (1, 1, tuple(chance.choice(tags) for tag in range(chance.randrange(4))))
        entries = []
        for name in sorted(chance.sample("abcdef", chance.randrange(4))):
            if folders and chance.randrange(2):
                entries.append((name, 2, chance.choice(folders)))
            else:
                entries.append((name, 1, chance.choice(tags)))
        return (2, tuple(entries))

    def do(self, chance, pool, model, turn):
        deed = chance.choice(("put", "put", "put", "put", "hold", "hold", "release", "sweep", "lay"))
        if deed == "put":
            block = self.some_block(chance, model)
            due = [tag for tag, other in model.taken.values() if other == block]
            tag = pool.put(block, turn)
            if due:
                self.assertEqual(tag, due[0])
            else:
                self.assertNotIn(tag[0], model.taken)
                self.assertEqual(tag[1:], (turn, sum_of(block)))
                model.taken[tag[0]] = (tag, block)
                model.draft.add(tag[0])
        elif deed == "hold" and model.taken:
            tag = chance.choice(list(model.taken.values()))[0]
            pool.hold(tag)
            model.held[tag[0]] = model.held.get(tag[0], 0) + 1
        elif deed == "release" and any(model.held.values()):
            number = chance.choice([number for number, many in model.held.items() if many])
            pool.release(model.taken[number][0])
            model.held[number] -= 1
            if model.count(number) == 0:
                model.free(number)
        elif deed == "sweep" and chance.randrange(3) == 0:
            pool.sweep()
            model.sweep()
        elif deed == "lay":
            pool.lay_draft()
            writes = 2 * len(model.draft)
            model.draft.clear()
            return writes
        return 0

    def check(self, pool, model):
        self.assertEqual(pool.numbers(), sorted(model.taken))
        for number, (tag, block) in model.taken.items():
            self.assertEqual(pool.tag(number), tag)
            self.assertEqual(pool.block(tag), block)
            self.assertEqual(pool.size(number), size_of(block))
            self.assertEqual(pool.tags(number), tags_in(block))
            self.assertEqual(pool.count(number), model.count(number))
            paths = model.reach(number) if len(model.taken) < 12 else None
            if paths is not None:
                self.assertEqual(pool.entries(number), len(paths))
                self.assertEqual(pool.deep(number), max(map(len, paths), default=0))

    def test_many_deeds(self):
        for seed in range(12):
            chance = random.Random(seed)
            boards = Boards(2 + seed % 3)
            pool, model, written = Pool(boards), Model(), 0
            for turn in range(120):
                written += self.do(chance, pool, model, turn)
                self.assertEqual(boards.written(), written)
                self.check(pool, model)


if __name__ == "__main__":
    unittest.main()
