"""Boards stopped behind any number of writes: opened again, the house is as it was ahead of the deed or behind it."""

import random
import unittest

from helper import (
    STORY,
    Chance,
    Plain,
    by_chance,
    do,
    do_all,
    new_house,
    pool_state,
    reached_by,
    refusal_of,
    stands,
    told_by,
)
from stemshelf.boards import Boards
from stemshelf.heads import head_of
from stemshelf.house import House
from stemshelf.opening import opened

STOPPED = ("Stopped", {})
BIRTH_PLACE = 5


def births_in(seen):
    """The births of the blocks that were written."""
    return {row[BIRTH_PLACE] for board, number, row in seen if number > 0}


class StoppedDeedTest(unittest.TestCase):
    def holds(self, boards, house):
        reached = reached_by(boards, house.head())
        pool = house.pool()
        self.assertEqual([(pool.tag(number), pool.count(number)) for number in pool.numbers()],
                         sorted((tag, count) for tag, (block, count) in reached.items()))

    def stopped_everywhere(self, boards, deed):
        """From boards on which a house lies, the deed is stopped behind each number of writes."""
        whole = boards.again()
        house = opened(whole)
        ahead, age = told_by(house), house.age()
        written = whole.written()
        do(house, *deed)
        behind, total = told_by(house), whole.written() - written
        for many in range(total):
            other = boards.again()
            house = opened(other)
            other.stop(many)
            self.assertEqual(refusal_of(do, house, *deed), STOPPED)
            self.assertEqual(refusal_of(other.write, 0, 0, []), STOPPED)
            other.stop(None)
            again = opened(other)
            is_laid = many > total - other.many()
            self.assertEqual(told_by(again), behind if is_laid else ahead, (deed, many))
            self.assertEqual(again.age(), age + 2 if is_laid else age + 1)
            self.holds(other, again)
        other = boards.again()
        house = opened(other)
        other.stop(total)
        do(house, *deed)
        self.assertEqual(refusal_of(other.write, 0, 0, []), STOPPED)
        other.stop(None)
        self.assertEqual(told_by(opened(other)), behind)

    def test_each_deed_behind_each_number_of_writes(self):
        for many in (2, 3, 4):
            boards = Boards(many)
            house = House(boards)
            for deed in STORY:
                self.stopped_everywhere(boards, deed)
                do(house, *deed)

    def test_a_house_that_was_never_opened_before(self):
        for many in range(40):
            boards, house = new_house(3, *STORY[:4])
            ahead = told_by(house)
            boards.stop(many)
            refusal = refusal_of(do, house, *STORY[4])
            boards.stop(None)
            if refusal is None:
                break
            self.assertEqual(refusal, STOPPED)
            again = opened(boards)
            if head_of(boards)[0] == 5:
                self.assertEqual(told_by(again), ahead)
            else:
                self.assertEqual(again.read("main", "a/b"), STORY[4][3])
        self.assertGreater(many, 20)

    def test_deeds_by_chance(self):
        boards, house = new_house(2)
        for deed, plain in by_chance(77, 45):
            if plain.age > 18 and deed[0] != "keeper":
                self.stopped_everywhere(boards, deed)
            do(house, *deed)


class StoppedOpeningTest(unittest.TestCase):
    def test_behind_each_number_of_writes(self):
        for many in (2, 3, 4):
            boards, house = new_house(many, *STORY)
            due = told_by(house)
            for writes in range(many):
                other = boards.again()
                other.stop(writes)
                self.assertEqual(refusal_of(opened, other), STOPPED)
                self.assertEqual(other.written(), writes)
                other.stop(None)
                again = opened(other)
                self.assertEqual(told_by(again), due)
                self.assertEqual(again.age(), house.age() + (1 if writes == 0 else 2))

    def test_behind_a_stopped_deed(self):
        boards, house = new_house(3, *STORY[:6])
        ahead = told_by(house)
        whole = boards.again()
        do(opened(whole), "write", "main", "n", "some new content")
        behind, total = told_by(opened(whole)), whole.written() - 6
        for many in range(total):
            for writes in range(3):
                other = boards.again()
                house = opened(other)
                other.stop(many)
                self.assertEqual(refusal_of(house.write, "main", "n", "some new content"), STOPPED)
                other.stop(writes)
                self.assertEqual(refusal_of(opened, other), STOPPED)
                other.stop(writes)
                self.assertEqual(refusal_of(opened, other), STOPPED)
                other.stop(None)
                self.assertEqual(told_by(opened(other)), behind if many > total - 3 else ahead)

    def test_the_elder_head_that_stayed_is_of_no_use_any_more(self):
        boards, house = new_house(3, *STORY[:6])
        boards.stop(None)
        written = boards.written()
        do(opened(boards.again()), "drop", "main")
        # the new head comes to the first board alone, and the opened house writes over what the elder one reached
        boards.stop(1)
        self.assertEqual(refusal_of(house.drop, "main"), STOPPED)
        self.assertEqual(boards.written(), written + 1)
        boards.stop(None)
        house = opened(boards)
        self.assertEqual(house.head()[2], ())
        do_all(house, (("stem", "new", "ann"), ("write", "new", "a", "quite another content than there was")))
        boards.lose(0)
        again = opened(boards)
        self.assertEqual(told_by(again), told_by(house))


class BirthsTest(unittest.TestCase):
    def test_births_of_a_stopped_deed_are_never_given_again(self):
        deed = ("write", "main", "n", "some content that is quite new here")
        for many in range(60):
            boards, house = new_house(2, *STORY[:6])
            boards.seen.clear()
            boards.stop(many)
            refusal = refusal_of(do, house, *deed)
            boards.stop(None)
            given = births_in(boards.seen)
            boards.seen.clear()
            house = opened(boards)
            do(house, "write", "main", "m", "yet another content")
            do(house, *deed)
            self.assertEqual(given & births_in(boards.seen), set())
            self.assertGreater(min(births_in(boards.seen)), max(given, default=0))
            if refusal is None:
                break
        self.assertIsNone(refusal)

    def test_no_two_deeds_ever_give_one_birth(self):
        for seed in range(4):
            chance, stops = Chance(seed + 900), random.Random(seed)
            boards, house = new_house(2 + seed % 3)
            plain, given = Plain(), set()
            for turn in range(120):
                deed = chance.deed(plain)
                due = plain.behind(deed[0], deed[1:])
                boards.seen.clear()
                boards.stop(stops.choice((None, stops.randrange(30))))
                refusal = refusal_of(do, house, *deed)
                boards.stop(None)
                new = births_in(boards.seen)
                self.assertEqual(new & given, set())
                given |= new
                if refusal == STOPPED:
                    while refusal == STOPPED:
                        boards.stop(stops.randrange(6))
                        refusal = refusal_of(opened, boards)
                    boards.stop(None)
                    house = opened(boards)
                    if stands(house) == due.stands():
                        plain = due
                    plain = plain.aged(house.age())
                elif refusal is None:
                    plain = due
                self.assertEqual(stands(house), plain.stands())


class SameAgainTest(unittest.TestCase):
    def test_a_deed_done_again_behind_a_stop_comes_to_the_same(self):
        boards, house = new_house(2, *STORY[:6])
        other_boards, other = new_house(2, *STORY[:6])
        boards.stop(5)
        deed = ("write", "main", "n", "some content that is quite new here")
        self.assertEqual(refusal_of(do, house, *deed), STOPPED)
        boards.stop(None)
        house = opened(boards)
        do(house, *deed)
        do(other, *deed)
        self.assertEqual(len(pool_state(house.pool())), len(pool_state(other.pool())))
        self.assertEqual(stands(house), stands(other))


if __name__ == "__main__":
    unittest.main()
