"""Boards: cells that are written, stopped, spoilt and lost."""

from stemshelf.errors import NoBoards, Stopped
from stemshelf.kinds import is_between

LEAST_BOARDS = 2
MOST_BOARDS = 4


class Boards:
    """Two to four boards, with a dict of their cells each; an empty cell is not in it."""

    def __init__(self, many):
        if not is_between(many, LEAST_BOARDS, MOST_BOARDS):
            raise NoBoards()
        self.shelves = [{} for board in range(many)]
        self.writes = 0
        self.writes_left = None

    def many(self):
        """How many boards there are."""
        return len(self.shelves)

    def write(self, board, number, row):
        """Lays a list into a cell, unless the boards are stopped."""
        shelf = self.shelf(board)
        if self.writes_left == 0:
            raise Stopped()
        if self.writes_left is not None:
            self.writes_left -= 1
        self.writes += 1
        shelf[number] = list(row)

    def cell(self, board, number):
        """What lies in a cell: a list, or None where it is empty."""
        row = self.shelf(board).get(number)
        if row is None:
            return None
        return list(row)

    def spoil(self, board, number, row):
        """Lets a cell hold another list, or be empty, without any write."""
        shelf = self.shelf(board)
        if row is None:
            shelf.pop(number, None)
        else:
            shelf[number] = list(row)

    def lose(self, board):
        """Lets all cells of a board be empty, without any write."""
        self.shelf(board).clear()

    def stop(self, many):
        """Stops the boards behind so many writes more, or, by None, not at all."""
        self.writes_left = many

    def written(self):
        """How many writes were done."""
        return self.writes

    def twins(self, number):
        """The two boards on which a cell lies, in this order."""
        return (number % self.many(), (number + 1) % self.many())

    def again(self):
        """Other boards just as these stand, without a stop, nothing written yet."""
        other = Boards(self.many())
        for board, shelf in enumerate(self.shelves):
            for number in shelf:
                other.spoil(board, number, shelf[number])
        return other

    def shelf(self, board):
        """The cells of a board."""
        if not is_between(board, 0, self.many() - 1):
            raise NoBoards()
        return self.shelves[board]
