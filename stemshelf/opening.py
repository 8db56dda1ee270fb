"""Opening: a house that comes up again from its boards."""

from stemshelf.blocks import tags_in
from stemshelf.copies import blocks_from
from stemshelf.errors import Lost
from stemshelf.heads import head_of, lay_head
from stemshelf.house import House
from stemshelf.names import one_older
from stemshelf.pool import Pool


def opened(boards):
    """The house that boards tell. It is one older ahead of all else, so that no birth is given a second time."""
    found = head_of(boards)
    tags = [named[4] for named in found[2]]
    blocks = blocks_from(boards, tags)
    lost = [tag[0] for tag in blocks if blocks[tag] is None]
    if len(lost) > 0:
        raise Lost(min(lost))
    pool = pool_of(boards, blocks, tags)
    head = one_older(found)
    lay_head(boards, head)
    return House(boards, head, pool)


def pool_of(boards, blocks, tags):
    """A pool in which all these blocks are taken, and these tags are held."""
    pool = Pool(boards)
    for tag in inner_first(blocks, tags):
        pool.take(tag, blocks[tag])
    for tag in tags:
        pool.hold(tag)
    return pool


def inner_first(blocks, tags):
    """All that tags lead to, each once, behind all that its own block names."""
    order = []
    begun = {}
    for tag in tags:
        put_behind(blocks, tag, order, begun)
    return order


def put_behind(blocks, tag, order, begun):
    """Puts a tag into the order behind those that its block names, unless it was begun already."""
    if tag in begun:
        return
    begun[tag] = True
    for named in tags_in(blocks[tag]):
        put_behind(blocks, named, order, begun)
    order.append(tag)
