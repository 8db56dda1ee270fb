"""Contents: put into a pool by pieces and by rows of rising levels, and read back from the top's tag."""

from stemshelf.blocks import PIECE, ROW, tags_in
from stemshelf.cutting import groups_of, pieces_of


def put_content(pool, content, birth):
    """The tag of the row that is a content's top, all its blocks put into the pool."""
    tags = [pool.put((PIECE, piece), birth) for piece in pieces_of(content)]
    level = 1
    rows = put_rows(pool, tags, level, birth)
    while len(rows) > 1:
        level += 1
        rows = put_rows(pool, rows, level, birth)
    return rows[0]


def put_rows(pool, tags, level, birth):
    """The tags of the rows of a level into which these tags are grouped; no tags make one row of none."""
    if len(tags) == 0:
        return [pool.put((ROW, level, ()), birth)]
    rows = []
    begin = 0
    for many in groups_of([tag[2] for tag in tags]):
        rows.append(pool.put((ROW, level, tuple(tags[begin:begin + many])), birth))
        begin += many
    return rows


def content_at(pool, tag):
    """The content whose top has this tag."""
    block = pool.block(tag)
    if block[0] == PIECE:
        return block[1]
    return "".join([content_at(pool, below) for below in tags_in(block)])
