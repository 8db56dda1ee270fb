"""Shares: which keepers hold which cells, and what comes to each of them."""

from stemshelf.fractions import fraction, is_above, summed
from stemshelf.names import tags_kept


def holders_in(pool, head):
    """A dict from the numbers of all taken cells to the rising lists of keepers that hold them."""
    holders = dict([(number, []) for number in pool.numbers()])
    for keeper, bound in head[1]:
        for number in reached(pool, tags_kept(head, keeper)):
            holders[number].append(keeper)
    return holders


def reached(pool, tags):
    """The numbers of all cells that tags lead to, each once."""
    found = {}
    waiting = list(tags)
    while len(waiting) > 0:
        number = waiting.pop()[0]
        if number not in found:
            found[number] = True
            waiting.extend(pool.tags(number))
    return list(found)


def share_in(pool, head, keeper):
    """A keeper's share."""
    return share_by(pool, holders_in(pool, head), keeper)


def share_by(pool, holders, keeper):
    """A keeper's share, where the holders of all cells are known."""
    held = [number for number in holders if keeper in holders[number]]
    return summed([fraction(pool.size(number), len(holders[number])) for number in held])


def alone_in(pool, head, keeper):
    """The size of all that a keeper holds alone."""
    holders = holders_in(pool, head)
    return sum([pool.size(number) for number in holders if holders[number] == [keeper]])


def all_in_hand(pool, head, keeper):
    """The size of all that a keeper holds."""
    return sum([pool.size(number) for number in reached(pool, tags_kept(head, keeper))])


def space_in(pool):
    """The size of all taken cells."""
    return sum([pool.size(number) for number in pool.numbers()])


def over_in(pool, head):
    """The keepers whose share is above their bound, rising."""
    holders = holders_in(pool, head)
    return [keeper for keeper, bound in head[1] if is_above(share_by(pool, holders, keeper), (bound, 1))]
