"""Blocks: pieces, rows and folders, and the tags by which they name one another."""

from stemshelf.kinds import is_between, is_tuple_of, is_whole
from stemshelf.signs import is_text, number_of
from stemshelf.things import words_of

PIECE = 0
ROW = 1
FOLDER = 2

FILE_ENTRY = 1
FOLDER_ENTRY = 2

NAME_SIGNS = "0123456789abcdefghijklmnopqrstuvwxyz"
MOST_NAME_SIGNS = 8
MOST_CELL = 999999
MOST_BIRTH = 999999999
SUM_RESTS = 997
MOST_PIECE_SIGNS = 8
MOST_LEVEL = 9
MOST_TAGS = 8
MOST_ENTRIES = 16


def is_name(thing):
    """Whether this, whatever it is, is a NAME."""
    return is_text(thing, 1, MOST_NAME_SIGNS) and all([sign in NAME_SIGNS for sign in thing])


def is_tag(thing):
    """Whether this, whatever it is, is a tag."""
    if not is_tuple_of(thing, 3):
        return False
    if not is_between(thing[0], 1, MOST_CELL) or not is_between(thing[1], 0, MOST_BIRTH):
        return False
    return is_between(thing[2], 0, SUM_RESTS - 1)


def is_block(thing):
    """Whether this, whatever it is, is a block."""
    if not isinstance(thing, tuple) or len(thing) == 0 or not is_whole(thing[0]):
        return False
    if thing[0] == PIECE:
        return len(thing) == 2 and is_text(thing[1], 1, MOST_PIECE_SIGNS)
    if thing[0] == ROW:
        return len(thing) == 3 and is_between(thing[1], 1, MOST_LEVEL) and are_row_tags(thing[2], thing[1])
    return thing[0] == FOLDER and len(thing) == 2 and are_entries(thing[1])


def are_row_tags(thing, level):
    """Whether this is what a row of the level may have as its tags."""
    if not isinstance(thing, tuple) or len(thing) > MOST_TAGS:
        return False
    if len(thing) == 0 and level > 1:
        return False
    return all([is_tag(tag) for tag in thing])


def are_entries(thing):
    """Whether this is what a folder may have as its entries."""
    if not isinstance(thing, tuple) or len(thing) > MOST_ENTRIES:
        return False
    if not all([is_entry(entry) for entry in thing]):
        return False
    names = [name for name, kind, tag in thing]
    return names == sorted(set(names))


def is_entry(thing):
    """Whether this is a tuple of a NAME, a kind and a tag."""
    if not is_tuple_of(thing, 3) or not is_name(thing[0]):
        return False
    return is_between(thing[1], FILE_ENTRY, FOLDER_ENTRY) and is_tag(thing[2])


def sum_of(block):
    """The sum of a block."""
    total = 1 + block[0]
    for number in numbers_told(block):
        total = (31 * total + number + 1) % SUM_RESTS
    return total


def numbers_told(block):
    """The numbers that a block's sum is reckoned from: of a tag its sum alone, as its cell may be any."""
    if block[0] == PIECE:
        return [number_of(sign) for sign in block[1]]
    if block[0] == ROW:
        return [block[1]] + [tag[2] for tag in block[2]]
    told = []
    for name, kind, tag in block[1]:
        told.extend([number_of(sign) for sign in name])
        told.extend([kind, tag[2]])
    return told


def size_of(block):
    """How many words a block has."""
    return len(words_of(block))


def tags_in(block):
    """The tags of a block in turn, each as often as it stands there."""
    if block[0] == PIECE:
        return []
    if block[0] == ROW:
        return list(block[2])
    return [tag for name, kind, tag in block[1]]
