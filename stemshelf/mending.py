"""Mending: copies told and laid twice again, and what is lost told with what needs it."""

from stemshelf.blocks import FOLDER, FOLDER_ENTRY, sum_of
from stemshelf.copies import blocks_from, lay, right_copies, walked
from stemshelf.errors import NoPaper
from stemshelf.heads import HEAD_CELL, head_of, head_row
from stemshelf.looker import lets_by
from stemshelf.trees import all_in


def copies_told(boards):
    """Tuples (number, birth, right) of all blocks come to, rising: how many of the two copies are right."""
    return sorted([(tag[0], tag[1], len(right_copies(boards, tag))) for tag in blocks_come_to(boards)])


def blocks_come_to(boards):
    """A dict to their blocks from the tags come to from the names on the boards, to None from those that are lost."""
    return blocks_from(boards, [named[4] for named in head_of(boards)[2]])


def lost_tags(boards):
    """The tags come to whose blocks have no right copy."""
    blocks = blocks_come_to(boards)
    return [tag for tag in blocks if blocks[tag] is None]


class FoundFolders:
    """Folders as far as they can be read: a lost one is come to, but nothing in it."""

    def __init__(self, blocks):
        self.blocks = blocks

    def block(self, tag):
        """The block of a folder that was come to."""
        found = self.blocks[tag]
        if found is None:
            return (FOLDER, ())
        return found


def lost_in(boards):
    """Tuples (number, needs) of all lost blocks, rising; needs are tuples (name, path) of what can't be read so."""
    blocks = blocks_come_to(boards)
    needs = dict([(tag[0], []) for tag in blocks if blocks[tag] is None])
    folders = FoundFolders(blocks)
    for named in head_of(boards)[2]:
        for path, kind, tag in all_in(folders, named[4]):
            for number in lost_of(blocks, kind, tag):
                needs[number].append((named[0], path))
    return [(number, sorted(needs[number])) for number in sorted(needs)]


def lost_of(blocks, kind, tag):
    """The numbers of the lost blocks that an entry can't be read without: of a folder its own, of a file all."""
    needed = [tag]
    if kind != FOLDER_ENTRY:
        needed = list(walked(lambda own: blocks[own], [tag]))
    return [own[0] for own in needed if blocks[own] is None]


def mended(boards):
    """The numbers, rising, of all cells that were written from their other copy, 0 of the head."""
    numbers = [tag[0] for tag in blocks_come_to(boards) if is_copied_over(boards, tag)]
    if is_head_laid_anew(boards):
        numbers.append(HEAD_CELL)
    return sorted(numbers)


def is_copied_over(boards, tag):
    """Whether a block had one right copy, which is laid in the other one's place then."""
    right = right_copies(boards, tag)
    if len(right) != 1:
        return False
    row = boards.cell(right[0], tag[0])
    for board in boards.twins(tag[0]):
        if board != right[0]:
            boards.write(board, tag[0], row)
    return True


def is_head_laid_anew(boards):
    """Whether some board lacked the head, which is laid there then."""
    row = head_row(head_of(boards))
    lacking = [board for board in range(boards.many()) if boards.cell(board, HEAD_CELL) != row]
    for board in lacking:
        boards.write(board, HEAD_CELL, row)
    return len(lacking) > 0


def mended_by(boards, account):
    """The numbers, rising, of all lost blocks that were laid anew as an account tells them."""
    if not lets_by(account):
        raise NoPaper()
    told = dict([((cell[0], cell[1], sum_of(cell[2])), cell[2]) for cell in account[3]])
    laid = {}
    due = known_among(lost_tags(boards), told)
    while len(due) > 0:
        for tag in due:
            lay(boards, tag[0], tag[1], told[tag])
            laid[tag[0]] = True
        due = [tag for tag in known_among(lost_tags(boards), told) if tag[0] not in laid]
    return sorted(laid)


def known_among(tags, told):
    """Those of the tags that are told."""
    return [tag for tag in tags if tag in told]
