"""Copies: how a block is laid on two boards, and read from the one that is right."""

from stemshelf.blocks import is_block, sum_of, tags_in
from stemshelf.errors import Lost, NoThing
from stemshelf.kinds import is_tuple_of
from stemshelf.marks import sealed, unsealed
from stemshelf.things import thing_of, words_of


def lay(boards, number, birth, block):
    """Lays a block of a birth into a cell."""
    row = sealed(words_of((number, birth, block)))
    for board in boards.twins(number):
        boards.write(board, number, row)


def right_copies(boards, tag):
    """The rising list of the twins' boards whose copy is right for the tag."""
    return sorted([board for board in boards.twins(tag[0]) if block_on(boards, board, tag) is not None])


def fetched(boards, tag):
    """The block of a tag, of the first copy that is right."""
    for board in boards.twins(tag[0]):
        block = block_on(boards, board, tag)
        if block is not None:
            return block
    raise Lost(tag[0])


def block_on(boards, board, tag):
    """The block that a board's copy tells, or None where the copy isn't right for the tag."""
    told = thing_on(boards, board, tag[0])
    if not is_tuple_of(told, 3) or told[:2] != tag[:2]:
        return None
    if not is_block(told[2]) or sum_of(told[2]) != tag[2]:
        return None
    return told[2]


def thing_on(boards, board, number):
    """The thing whose sealed words lie in a board's cell, or None where there is none."""
    row = boards.cell(board, number)
    if row is None:
        return None
    words = unsealed(row)
    if words is None:
        return None
    try:
        return thing_of(words)
    except NoThing:
        return None


def blocks_from(boards, tags):
    """The blocks on boards that are walked from tags."""
    return walked(lambda tag: block_or_none(boards, tag), tags)


def walked(block_of, tags):
    """A dict to their blocks from all tags come to from some, through what can be read; to None from a lost one."""
    found = {}
    waiting = list(tags)
    while len(waiting) > 0:
        tag = waiting.pop()
        if tag not in found:
            found[tag] = block_of(tag)
            if found[tag] is not None:
                waiting.extend(tags_in(found[tag]))
    return found


def block_or_none(boards, tag):
    """The block of a tag, or None where no copy is right."""
    try:
        return fetched(boards, tag)
    except Lost:
        return None
