"""Changes: the head that a house comes to by each deed, and what refuses the deed.

New blocks are put into the pool, in which the tags of the head's names are held. Where a deed is refused, what it
put in is free again.
"""

from stemshelf.blocks import FILE_ENTRY, FOLDER, FOLDER_ENTRY, is_name
from stemshelf.contents import content_at, put_content
from stemshelf.errors import Bare, Grown, Lost, NoName, NoPath, OverBound, TooMany, Twice
from stemshelf.fractions import is_above
from stemshelf.heads import SEAL, STEM
from stemshelf.histories import grafted
from stemshelf.names import (
    check_new_name,
    check_new_stem,
    check_room,
    keeper_called,
    named_so,
    one_older,
    seal_called,
    seals_of,
    stem_called,
    stems_in,
    with_keeper,
    with_named,
    without_named,
)
from stemshelf.paths import folder_of, is_beneath, steps_in
from stemshelf.shares import share_in
from stemshelf.things import MOST_SIGNS
from stemshelf.trees import MOST_TREE_DEEP, MOST_TREE_ENTRIES, entry_at, with_entry


def keeper_told(head, name, bound):
    """Behind keeper(NAME, bound)."""
    if not is_name(name):
        raise NoName(name)
    return one_older(with_keeper(head, name, bound))


def stem_begun(pool, head, name, keeper):
    """Behind stem(NAME, KEEPER)."""
    return stem_new(pool, head, (name, STEM, keeper, ""), lambda birth: pool.put((FOLDER, ()), birth))


def folder_made(pool, head, stem, path):
    """Behind folder(STEM, path)."""
    named = stem_called(head, stem)
    check_free_place(pool, named[4], path)
    return entry_behind(pool, head, named, path, lambda birth: (FOLDER_ENTRY, pool.put((FOLDER, ()), birth)))


def file_written(pool, head, stem, path, content):
    """Behind write(STEM, path, content)."""
    named = stem_called(head, stem)
    check_place(pool, named[4], path)
    there = entry_at(pool, named[4], path)
    if there is not None and there[0] == FOLDER_ENTRY:
        raise NoPath(path)
    return content_behind(pool, head, named, path, content)


def file_spliced(pool, head, stem, path, at, many, text):
    """Behind splice(STEM, path, at, many, text)."""
    named = stem_called(head, stem)
    there = entry_at(pool, named[4], path)
    if there is None or there[0] != FILE_ENTRY:
        raise NoPath(path)
    content = content_at(pool, there[1])
    return content_behind(pool, head, named, path, content[:at] + text + content[at + many:])


def entry_removed(pool, head, stem, path):
    """Behind remove(STEM, path)."""
    named = stem_called(head, stem)
    check_movable(pool, named[4], path)
    return entry_behind(pool, head, named, path, lambda birth: None)


def entry_moved(pool, head, stem, path, to):
    """Behind move(STEM, path, to)."""
    named = stem_called(head, stem)
    check_movable(pool, named[4], path)
    if to == path or is_beneath(to, path):
        raise NoPath(to)
    check_free_place(pool, named[4], to)
    return stem_behind(pool, head, named[:4], lambda birth: with_moved(pool, named[4], path, to, birth))


def entry_copied(pool, head, stem, to, name, path):
    """Behind copy(STEM, to, NAME, path)."""
    named = stem_called(head, stem)
    entry = entry_at(pool, named_so(head, name)[4], path)
    if entry is None:
        raise NoPath(path)
    check_free_place(pool, named[4], to)
    return entry_behind(pool, head, named, to, lambda birth: entry)


def stem_sealed(head, stem, name):
    """Behind seal(STEM, NAME)."""
    named = stem_called(head, stem)
    check_new_name(head, name)
    check_room(head)
    return one_older(with_named(head, (name, SEAL, stem, head[0] + 1, named[4])))


def stem_grown(pool, head, name, seal, keeper):
    """Behind grow(NAME, SEAL, KEEPER)."""
    check_new_name(head, name)
    tag = seal_called(head, seal)[4]
    return stem_new(pool, head, (name, STEM, keeper, seal), lambda birth: tag)


def stem_set_back(head, stem):
    """Behind back(STEM)."""
    named = stem_called(head, stem)
    seals = seals_of(head, stem)
    if len(seals) == 0:
        raise Bare(stem)
    return one_older(with_named(head, named[:4] + (seals[-1][4],)))


def stem_grafted(pool, head, stem):
    """Behind graft(STEM)."""
    behind = stem_grafted_unbound(head, stem)
    check_bound(pool, head, behind, stem_called(head, stem)[2])
    return behind


def stem_grafted_unbound(head, stem):
    """Behind graft(STEM), where no bound is asked for."""
    if stem_called(head, stem)[3] == "":
        raise Bare(stem)
    return one_older(grafted(head, stem))


def name_dropped(head, name):
    """Behind drop(NAME)."""
    named = named_so(head, name)
    seals = [name]
    if named[1] == STEM:
        seals = [seal[0] for seal in seals_of(head, name)]
    origins = [stem[3] for stem in stems_in(head)]
    grown = sorted([seal for seal in seals if seal in origins])
    if len(grown) > 0:
        raise Grown(grown[0])
    return one_older(without_named(head, [name] + seals))


def check_place(pool, root, path):
    """Refuses a path at which nothing may stand in a tree: the root, and where there is no folder for it."""
    if len(steps_in(path)) == 0:
        raise NoPath(path)
    above = entry_at(pool, root, folder_of(path))
    if above is None or above[0] != FOLDER_ENTRY:
        raise NoPath(path)


def check_free_place(pool, root, path):
    """Refuses a path at which nothing may stand in a tree, or something stands already."""
    check_place(pool, root, path)
    if entry_at(pool, root, path) is not None:
        raise Twice(path)


def check_movable(pool, root, path):
    """Refuses a path at which nothing stands in a tree, and the root, which stays where it is."""
    if path == "" or entry_at(pool, root, path) is None:
        raise NoPath(path)


def with_moved(pool, root, path, to, birth):
    """The tag of the tree in which what stood at a path stands elsewhere; gone first, it takes up no room."""
    entry = entry_at(pool, root, path)
    return with_entry(pool, with_entry(pool, root, path, None, birth), to, entry, birth)


def content_behind(pool, head, stem, path, content):
    """The head behind a deed by which a file of a stem has this content."""
    if len(content) > MOST_SIGNS:
        raise TooMany()
    return entry_behind(pool, head, stem, path, lambda birth: (FILE_ENTRY, put_content(pool, content, birth)))


def entry_behind(pool, head, stem, path, put_entry):
    """The head behind a deed by which a stem has at a path the entry that is put in so, or, by None, nothing."""
    return stem_behind(
        pool, head, stem[:4], lambda birth: with_entry(pool, stem[4], path, put_entry(birth), birth)
    )


def stem_new(pool, head, stem, put_tree):
    """The head behind a deed by which there is a new stem, told without its tag."""
    check_new_stem(head, stem[0], stem[2])
    return stem_behind(pool, head, stem, put_tree)


def stem_behind(pool, head, stem, put_tree):
    """The head behind a deed by which a stem, told without its tag, has the tree that is put in so."""
    try:
        tag = put_tree(head[0] + 1)
        check_tree(pool, tag)
        behind = one_older(with_named(head, stem + (tag,)))
        check_bound(pool, head, behind, stem[2])
    except Lost as refusal:
        pool.sweep()
        raise Lost(refusal.number) from refusal
    except TooMany as refusal:
        pool.sweep()
        raise TooMany() from refusal
    except OverBound as refusal:
        pool.sweep()
        raise OverBound(refusal.name) from refusal
    return behind


def check_tree(pool, root):
    """Refuses a tree of too many entries, or too deep."""
    if pool.entries(root[0]) > MOST_TREE_ENTRIES or pool.deep(root[0]) > MOST_TREE_DEEP:
        raise TooMany()


def check_bound(pool, head, behind, keeper):
    """Refuses a deed that leaves its keeper's share above its bound and above what it was."""
    share = share_in(pool, behind, keeper)
    bound = keeper_called(head, keeper)[1]
    if is_above(share, (bound, 1)) and is_above(share, share_in(pool, head, keeper)):
        raise OverBound(keeper)
