"""Heads: what a house is told by, and how it lies on the boards."""

from stemshelf.blocks import is_name, is_tag
from stemshelf.copies import thing_on
from stemshelf.errors import NoHouse
from stemshelf.kinds import is_between, is_tuple_of
from stemshelf.marks import sealed
from stemshelf.things import MOST_NUMBER, words_of

STEM = 1
SEAL = 2

HEAD_CELL = 0
MOST_KEEPERS = 8
MOST_NAMES = 24


def is_head(thing):
    """Whether this, whatever it is, is a head."""
    if not is_tuple_of(thing, 3) or not is_between(thing[0], 0, MOST_NUMBER):
        return False
    return are_keepers(thing[1]) and are_names(thing[2]) and are_at_one(thing[1], thing[2])


def are_keepers(thing):
    """Whether this is what a head may have as its keepers."""
    if not isinstance(thing, tuple) or len(thing) > MOST_KEEPERS:
        return False
    return all([is_keeper(keeper) for keeper in thing]) and are_rising(thing)


def is_keeper(thing):
    """Whether this is a tuple of a NAME and a bound."""
    return is_tuple_of(thing, 2) and is_name(thing[0]) and is_between(thing[1], 0, MOST_NUMBER)


def are_rising(named):
    """Whether tuples that begin with NAMEs rise by unlike ones."""
    names = [one[0] for one in named]
    return names == sorted(set(names))


def are_names(thing):
    """Whether this is what a head may have as its names, each looked at by itself."""
    if not isinstance(thing, tuple) or len(thing) > MOST_NAMES:
        return False
    return all([is_stem(named) or is_seal(named) for named in thing]) and are_rising(thing)


def is_stem(thing):
    """Whether this has a stem's parts: NAME, 1, keeper, origin, tag."""
    if not is_tuple_of(thing, 5) or not is_between(thing[1], STEM, STEM):
        return False
    return is_name(thing[0]) and is_name(thing[2]) and (thing[3] == "" or is_name(thing[3])) and is_tag(thing[4])


def is_seal(thing):
    """Whether this has a seal's parts: NAME, 2, stem, turn, tag."""
    if not is_tuple_of(thing, 5) or not is_between(thing[1], SEAL, SEAL):
        return False
    return is_name(thing[0]) and is_name(thing[2]) and is_between(thing[3], 1, MOST_NUMBER) and is_tag(thing[4])


def are_at_one(keepers, names):
    """Whether what names name is there, and their turns fit."""
    stems = [named for named in names if named[1] == STEM]
    seals = [named for named in names if named[1] == SEAL]
    called = [keeper[0] for keeper in keepers]
    if not all([stem[2] in called for stem in stems]):
        return False
    if len(set([seal[3] for seal in seals])) < len(seals):
        return False
    turns = dict([(seal[0], seal[3]) for seal in seals])
    if not all([stem[3] == "" or stem[3] in turns for stem in stems]):
        return False
    begins = dict([(stem[0], turns.get(stem[3], 0)) for stem in stems])
    return all([seal[2] in begins and seal[3] > begins[seal[2]] for seal in seals])


def head_row(head):
    """What a head's cell holds on each board."""
    return sealed(words_of(head))


def lay_head(boards, head):
    """Lays a head on all boards."""
    row = head_row(head)
    for board in range(boards.many()):
        boards.write(board, HEAD_CELL, row)


def head_of(boards):
    """The head of boards: the greatest age's, of several the first board's."""
    found = None
    for board in range(boards.many()):
        told = thing_on(boards, board, HEAD_CELL)
        if is_head(told) and (found is None or told[0] > found[0]):
            found = told
    if found is None:
        raise NoHouse()
    return found
