"""Taking in: a tree that an account tells, as a new stem of a house."""

from stemshelf.accounts import ToldBlocks, root_by
from stemshelf.blocks import FILE_ENTRY, FOLDER
from stemshelf.changes import stem_new
from stemshelf.contents import content_at, put_content
from stemshelf.errors import NoPaper
from stemshelf.heads import STEM
from stemshelf.looker import lets_by
from stemshelf.names import check_new_name, keeper_called


def take_in(house, name, keeper, account, source):
    """A new stem of the house with the tree that a stem or seal of the account has."""
    check_new_name(house.head(), name)
    keeper_called(house.head(), keeper)
    if not lets_by(account):
        raise NoPaper()
    root = root_by(account, source)
    pool = house.pool()
    told = ToldBlocks(account)
    stem = (name, STEM, keeper, "")
    house.come_to(stem_new(pool, house.head(), stem, lambda birth: put_folder(pool, told, root, birth)))


def put_folder(pool, told, tag, birth):
    """The tag in the pool of a folder that is told, put in with all that lies in it."""
    entries = []
    for name, kind, there in told.block(tag)[1]:
        if kind == FILE_ENTRY:
            here = put_content(pool, content_at(told, there), birth)
        else:
            here = put_folder(pool, told, there, birth)
        entries.append((name, kind, here))
    return pool.put((FOLDER, tuple(entries)), birth)
