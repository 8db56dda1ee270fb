"""Accounts: all that a house holds, told as one tuple, and what is read from it alone."""

from stemshelf.contents import content_at
from stemshelf.names import named_so
from stemshelf.shares import holders_in, share_by
from stemshelf.trees import all_in, entry_at


def account_of(house):
    """The account (age, keepers, names, cells, shares) of a house."""
    head = house.head()
    pool = house.pool()
    holders = holders_in(pool, head)
    heights = {}
    cells = [cell_told(pool, number, heights, holders) for number in pool.numbers()]
    shares = [(keeper, share_by(pool, holders, keeper)) for keeper, bound in head[1]]
    return head + (tuple(cells), tuple(shares))


def cell_told(pool, number, heights, holders):
    """What an account tells of a taken cell."""
    tag = pool.tag(number)
    height = height_in(pool, number, heights)
    return (number, tag[1], pool.block(tag), height, pool.count(number), tuple(holders[number]))


def height_in(pool, number, heights):
    """The height of a taken cell; those that are known already are kept."""
    if number not in heights:
        beneath = [height_in(pool, tag[0], heights) for tag in pool.tags(number)]
        heights[number] = 1 + max(beneath, default=-1)
    return heights[number]


class ToldBlocks:
    """The blocks that an account tells, asked by their tags as in a pool."""

    def __init__(self, account):
        self.blocks = dict([(cell[0], cell[2]) for cell in account[3]])

    def block(self, tag):
        """The block of a tag."""
        return self.blocks[tag[0]]


def root_by(account, name):
    """The tag of a stem's or seal's tree."""
    return named_so(account[:3], name)[4]


def entry_by(account, name, path):
    """The entry (kind, tag) at a path of a stem or seal, or None."""
    return entry_at(ToldBlocks(account), root_by(account, name), path)


def content_by(account, tag):
    """The content whose top has this tag."""
    return content_at(ToldBlocks(account), tag)


def paths_by(account, name):
    """All that stands in a stem's or seal's tree but the root, as tuples (path, kind), sorted."""
    found = all_in(ToldBlocks(account), root_by(account, name))
    return [(path, kind) for path, kind, tag in found if path != ""]
