"""Trees: what stands at a path, a tree with something else there, and all of a tree."""

from stemshelf.blocks import FOLDER, FOLDER_ENTRY, MOST_ENTRIES
from stemshelf.errors import NoPath, TooMany
from stemshelf.paths import path_to, steps_in

MOST_TREE_ENTRIES = 60
MOST_TREE_DEEP = 8


def entry_at(pool, root, path):
    """The entry (kind, tag) that stands at a path, or None."""
    entry = (FOLDER_ENTRY, root)
    for step in steps_in(path):
        if entry is None or entry[0] != FOLDER_ENTRY:
            return None
        entry = entry_called(pool.block(entry[1]), step)
    return entry


def entry_called(folder, name):
    """The entry (kind, tag) of this name in a folder's block, or None."""
    for called, kind, tag in folder[1]:
        if called == name:
            return (kind, tag)
    return None


def with_entry(pool, root, path, entry, birth):
    """The tag of the tree with this entry at a path, or, by None, with nothing there."""
    steps = steps_in(path)
    if len(steps) == 0:
        raise NoPath(path)
    folders = folders_along(pool, root, path)
    for folder, step in reversed(list(zip(folders, steps, strict=True))):
        entry = (FOLDER_ENTRY, pool.put(folder_with(folder, step, entry), birth))
    return entry[1]


def folders_along(pool, root, path):
    """The blocks of the folders on the way to a path, from the root to the one in which the path lies."""
    folders = [pool.block(root)]
    for step in steps_in(path)[:-1]:
        entry = entry_called(folders[-1], step)
        if entry is None or entry[0] != FOLDER_ENTRY:
            raise NoPath(path)
        folders.append(pool.block(entry[1]))
    return folders


def folder_with(folder, name, entry):
    """A folder's block with this entry under a name, or, by None, without any."""
    entries = [other for other in folder[1] if other[0] != name]
    if entry is not None:
        entries.append((name, entry[0], entry[1]))
    if len(entries) > MOST_ENTRIES:
        raise TooMany()
    return (FOLDER, tuple(sorted(entries)))


def all_in(pool, root):
    """All that stands in a tree, as tuples (path, kind, tag), sorted by paths, the root too."""
    found = []
    layer = [("", FOLDER_ENTRY, root)]
    while len(layer) > 0:
        found.extend(layer)
        beneath = []
        for path, kind, tag in layer:
            if kind == FOLDER_ENTRY:
                beneath.extend([(path_to(path, name), below, own) for name, below, own in pool.block(tag)[1]])
        layer = beneath
    return sorted(found)
