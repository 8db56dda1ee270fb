"""The looker: whether an account is at one with itself. It reads nothing but the account.

Each step leans on those ahead of it. Heights that fit show that no block leads back to itself, so that all that is
reckoned along tags is reckoned by heights, in either direction, and comes to an end.
"""

from stemshelf.blocks import FILE_ENTRY, FOLDER, PIECE, ROW, is_block, is_tag, size_of, sum_of, tags_in
from stemshelf.fractions import fraction, summed
from stemshelf.heads import is_head
from stemshelf.kinds import is_tuple_of, is_whole
from stemshelf.names import tags_kept
from stemshelf.things import MOST_SIGNS
from stemshelf.trees import MOST_TREE_DEEP, MOST_TREE_ENTRIES


def lets_by(account):
    """Whether this, whatever it is, is an account in which all is so as an account is due to be."""
    if not is_tuple_of(account, 5) or not is_head(account[:3]) or not are_cells(account[3]):
        return False
    head = account[:3]
    cells = dict([((cell[0], cell[1], sum_of(cell[2])), cell) for cell in account[3]])
    if not are_there(head, cells) or not fit_heights(cells) or not fit_kinds(cells):
        return False
    if not fit_counts(head, cells) or not fit_holders(head, cells) or not fit_shares(head, cells, account[4]):
        return False
    return fit_trees(head, cells) and fit_contents(cells)


def are_cells(thing):
    """Whether these are cells by rising numbers, each looked at by itself, no two with alike blocks."""
    if not isinstance(thing, tuple) or not all([is_cell(cell) for cell in thing]):
        return False
    numbers = [cell[0] for cell in thing]
    return numbers == sorted(set(numbers)) and len(set([cell[2] for cell in thing])) == len(thing)


def is_cell(thing):
    """Whether this has a cell's parts. Its holders are left to the step that knows what they are due to be."""
    if not is_tuple_of(thing, 6) or not is_block(thing[2]):
        return False
    if not is_tag((thing[0], thing[1], sum_of(thing[2]))):
        return False
    return is_whole(thing[3]) and is_whole(thing[4]) and thing[4] >= 1


def are_there(head, cells):
    """Whether each tag in a block or a name is a cell's, a name's that of a folder."""
    for tag in cells:
        if not all([named in cells for named in tags_in(block_in(cells, tag))]):
            return False
    return all([named[4] in cells and block_in(cells, named[4])[0] == FOLDER for named in head[2]])


def block_in(cells, tag):
    """The block of a cell."""
    return cells[tag][2]


def fit_heights(cells):
    """Whether each height is one more than the greatest of those that it stands on."""
    for tag in cells:
        beneath = [cells[named][3] for named in tags_in(block_in(cells, tag))]
        if cells[tag][3] != 1 + max(beneath, default=-1):
            return False
    return True


def by_heights(cells):
    """All tags of cells, each behind those that its block names."""
    return sorted(cells, key=lambda tag: cells[tag][3])


def fit_kinds(cells):
    """Whether rows are of rows of a level less or of pieces, and folders of files' tops and of folders."""
    for tag in cells:
        block = block_in(cells, tag)
        if block[0] == ROW and not all([level_in(cells, named) == block[1] - 1 for named in block[2]]):
            return False
        if block[0] == FOLDER and not all([fits_entry(cells, entry) for entry in block[1]]):
            return False
    return True


def level_in(cells, tag):
    """The level of a row, 0 of a piece, which lies beneath the first level, None of a folder."""
    block = block_in(cells, tag)
    if block[0] == FOLDER:
        return None
    return 0 if block[0] == PIECE else block[1]


def fits_entry(cells, entry):
    """Whether a folder's entry is of a block such as its kind says."""
    due = ROW if entry[1] == FILE_ENTRY else FOLDER
    return block_in(cells, entry[2])[0] == due


def fit_counts(head, cells):
    """Whether each count is how often blocks and names name the cell."""
    counts = dict([(tag, 0) for tag in cells])
    for tag in cells:
        for named in tags_in(block_in(cells, tag)):
            counts[named] += 1
    for named in head[2]:
        counts[named[4]] += 1
    return all([cells[tag][4] == counts[tag] for tag in cells])


def fit_holders(head, cells):
    """Whether holders are the keepers from whose names the cell is come to, rising."""
    due = dict([(tag, {}) for tag in cells])
    for keeper, bound in head[1]:
        for tag in tags_kept(head, keeper):
            due[tag][keeper] = True
    for tag in reversed(by_heights(cells)):
        for named in tags_in(block_in(cells, tag)):
            due[named].update(due[tag])
    return all([cells[tag][5] == tuple(sorted(due[tag])) for tag in cells])


def fit_shares(head, cells, shares):
    """Whether shares are those of all keepers, rising, by sizes and holders."""
    if not is_tuple_of(shares, len(head[1])) or not all([is_share(share) for share in shares]):
        return False
    return shares == tuple([(keeper, share_due(cells, keeper)) for keeper, bound in head[1]])


def is_share(thing):
    """Whether this is a tuple of some part and a tuple of two whole numbers: a truth is like one of them for Python."""
    if not is_tuple_of(thing, 2) or not is_tuple_of(thing[1], 2):
        return False
    return is_whole(thing[1][0]) and is_whole(thing[1][1])


def share_due(cells, keeper):
    """A keeper's share, by sizes and holders."""
    held = [tag for tag in cells if keeper in cells[tag][5]]
    return summed([fraction(size_of(block_in(cells, tag)), len(cells[tag][5])) for tag in held])


def fit_trees(head, cells):
    """Whether no name's tree has too many entries or is too deep."""
    entries = {}
    steps = {}
    for tag in by_heights(cells):
        entries[tag] = 0
        steps[tag] = 0
        if block_in(cells, tag)[0] == FOLDER:
            for name, kind, named in block_in(cells, tag)[1]:
                # more than too many is no matter, and would grow beyond measure along many folders
                entries[tag] = min(entries[tag] + 1 + entries[named], MOST_TREE_ENTRIES + 1)
                steps[tag] = max(steps[tag], 1 + steps[named])
    roots = [named[4] for named in head[2]]
    return all([entries[tag] <= MOST_TREE_ENTRIES and steps[tag] <= MOST_TREE_DEEP for tag in roots])


def fit_contents(cells):
    """Whether no file's content has too many signs."""
    signs = {}
    for tag in by_heights(cells):
        block = block_in(cells, tag)
        if block[0] == PIECE:
            signs[tag] = len(block[1])
        if block[0] == ROW:
            signs[tag] = sum([signs[named] for named in block[2]])
        if block[0] == FOLDER:
            files = [named for name, kind, named in block[1] if kind == FILE_ENTRY]
            if not all([signs[named] <= MOST_SIGNS for named in files]):
                return False
    return True
