"""The desk: boards and a house that are told rows, and answer them."""

from stemshelf.accounts import account_of
from stemshelf.blocks import FOLDER_ENTRY
from stemshelf.boards import Boards
from stemshelf.errors import NoHouse, NoRow, Stopped
from stemshelf.histories import history_in
from stemshelf.house import House
from stemshelf.looker import lets_by
from stemshelf.mending import lost_in, mended
from stemshelf.names import keeper_called
from stemshelf.opening import opened
from stemshelf.rows import done, parts_read, path_written, read_row, word_of
from stemshelf.shares import over_in, share_in, space_in

HOUSE_PARTS = {
    "read": ("word", "path"),
    "paths": ("word",),
    "share": ("word",),
    "over": (),
    "history": ("word",),
    "age": (),
    "space": (),
    "looked": (),
}

BOARD_PARTS = {
    "open": (),
    "stop": ("number",),
    "go": (),
    "lose": ("number",),
    "spoil": ("number", "number"),
    "mend": (),
    "lost": (),
}

DONE = "ok"


class Desk:
    """So many boards with a house, new ones at first; house is None while there is none to be asked."""

    def __init__(self, many):
        self.boards = Boards(many)
        self.house = House(self.boards)

    def say(self, row):
        """The answer to a row."""
        try:
            return self.answer(row)
        except Stopped as refusal:
            self.house = None
            raise Stopped() from refusal

    def answer(self, row):
        """The answer to a row, the house left as it is where boards stop."""
        word = word_of(row)
        if word in BOARD_PARTS:
            return self.answer_of_boards(parts_read(row, BOARD_PARTS[word]))
        if word in HOUSE_PARTS:
            asked = parts_read(row, HOUSE_PARTS[word])
            return answer_of_house(self.house_there(), asked)
        deed = read_row(row)
        done(self.house_there(), deed)
        return DONE

    def house_there(self):
        """The house, where there is one."""
        if self.house is None:
            raise NoHouse()
        return self.house

    def answer_of_boards(self, asked):
        """The answer to a row that asks for no house."""
        word = asked[0]
        if word in ("lose", "spoil") and asked[1] >= self.boards.many():
            raise NoRow()
        if word == "mend":
            return words_told(mended(self.boards))
        if word == "lost":
            return "\n".join([lost_told(number, needs) for number, needs in lost_in(self.boards)])
        if word == "open":
            self.house = None
            self.house = opened(self.boards)
        elif word == "stop":
            self.boards.stop(asked[1])
        elif word == "go":
            self.boards.stop(None)
        elif word == "lose":
            self.boards.lose(asked[1])
        else:
            self.boards.spoil(asked[1], asked[2], None)
        return DONE


def answer_of_house(house, asked):
    """The answer to a row that asks a house for what it holds."""
    word = asked[0]
    if word == "read":
        return house.read(asked[1], asked[2])
    if word == "paths":
        return words_told([path_told(path, kind) for path, kind in house.paths(asked[1])])
    if word == "share":
        keeper_called(house.head(), asked[1])
        return share_told(share_in(house.pool(), house.head(), asked[1]))
    if word == "over":
        return words_told(over_in(house.pool(), house.head()))
    if word == "history":
        return words_told(history_in(house.head(), asked[1]))
    if word == "age":
        return str(house.age())
    if word == "space":
        return str(space_in(house.pool()))
    return "let by" if lets_by(account_of(house)) else "not"


def words_told(some):
    """Numbers or words with blanks between."""
    return " ".join([str(one) for one in some])


def path_told(path, kind):
    """A path as a word, a folder's with a sign behind it."""
    return path + "/" if kind == FOLDER_ENTRY else path


def share_told(share):
    """A share, without its bottom where this says nothing."""
    if share[1] == 1:
        return str(share[0])
    return str(share[0]) + "/" + str(share[1])


def lost_told(number, needs):
    """The row of a lost block and what needs it."""
    return words_told([number] + [name + ":" + path_written(path) for name, path in needs])
