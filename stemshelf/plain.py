"""The plain house: the same deeds upon plain copies.

It has a head as a house has, but in the tags' place the trees: dicts from paths to contents, to None from folders.
No tree is ever changed, as several names may have the same one; a deed makes another.
"""

from stemshelf.blocks import FILE_ENTRY, FOLDER_ENTRY, MOST_ENTRIES
from stemshelf.changes import keeper_told, name_dropped, stem_grafted_unbound, stem_sealed, stem_set_back
from stemshelf.errors import NoPath, TooMany, Twice
from stemshelf.heads import STEM
from stemshelf.names import check_new_name, check_new_stem, named_so, one_older, seal_called, stem_called, with_named
from stemshelf.paths import folder_of, is_beneath, path_to, steps_in
from stemshelf.things import MOST_SIGNS
from stemshelf.trees import MOST_TREE_DEEP, MOST_TREE_ENTRIES


class PlainHouse:
    """A house of plain copies, new and empty at first."""

    def __init__(self):
        self.own_head = (0, (), ())

    def keeper(self, name, bound):
        """There is a keeper of this name; bounds play no part here."""
        self.own_head = keeper_told(self.own_head, name, bound)

    def stem(self, name, keeper):
        """A new stem with an empty root."""
        self.take_in(name, keeper, {})

    def take_in(self, name, keeper, tree):
        """A new stem with this tree."""
        check_new_stem(self.own_head, name, keeper)
        self.put_tree((name, STEM, keeper, ""), dict(tree))

    def folder(self, stem, path):
        """An empty folder."""
        tree = self.tree_of_stem(stem)
        check_free(tree, path)
        self.change(stem, with_paths(tree, [(path, None)]))

    def write(self, stem, path, content):
        """The file at the path has this content."""
        tree = self.tree_of_stem(stem)
        check_put(tree, path)
        if is_folder(tree, path):
            raise NoPath(path)
        self.change(stem, with_paths(tree, [(path, content)]))

    def splice(self, stem, path, at, many, text):
        """In the file at the path so many signs from a place on are the text."""
        content = content_in(self.tree_of_stem(stem), path)
        self.write(stem, path, content[:at] + text + content[at + many:])

    def remove(self, stem, path):
        """What stands at the path is gone."""
        tree = self.tree_of_stem(stem)
        check_there(tree, path)
        self.change(stem, without_path(tree, path))

    def move(self, stem, path, to):
        """What stands at the path stands elsewhere."""
        tree = self.tree_of_stem(stem)
        check_there(tree, path)
        if to == path or is_beneath(to, path):
            raise NoPath(to)
        check_free(tree, to)
        self.change(stem, with_paths(without_path(tree, path), carried(tree, path, to)))

    def copy(self, stem, to, name, path):
        """What stands at the path in a stem or seal stands elsewhere, too."""
        tree = self.tree_of_stem(stem)
        source = self.tree_of(name)
        if path != "":
            check_there(source, path)
        check_free(tree, to)
        self.change(stem, with_paths(tree, carried(source, path, to)))

    def seal(self, stem, name):
        """A seal of the stem as it stands."""
        self.own_head = stem_sealed(self.own_head, stem, name)

    def grow(self, name, seal, keeper):
        """A new stem that begins as the seal."""
        check_new_name(self.own_head, name)
        tree = seal_called(self.own_head, seal)[4]
        check_new_stem(self.own_head, name, keeper)
        self.put_tree((name, STEM, keeper, seal), tree)

    def back(self, stem):
        """The stem is as its latest seal again."""
        self.own_head = stem_set_back(self.own_head, stem)

    def graft(self, stem):
        """The stem stands in its origin's place."""
        self.own_head = stem_grafted_unbound(self.own_head, stem)

    def drop(self, name):
        """A seal is gone, or a stem with all its seals."""
        self.own_head = name_dropped(self.own_head, name)

    def read(self, name, path):
        """The content of the file at a path of a stem or seal."""
        return content_in(self.tree_of(name), path)

    def paths(self, name):
        """All that stands in a stem's or seal's tree, as tuples (path, kind), sorted."""
        tree = self.tree_of(name)
        return [(path, FOLDER_ENTRY if tree[path] is None else FILE_ENTRY) for path in sorted(tree)]

    def tree_of(self, name):
        """The tree of a stem or seal."""
        return named_so(self.own_head, name)[4]

    def tree_of_stem(self, name):
        """The tree of a stem; a seal's name won't do."""
        return stem_called(self.own_head, name)[4]

    def change(self, stem, tree):
        """The stem has this tree from now on."""
        self.put_tree(stem_called(self.own_head, stem)[:4], tree)

    def put_tree(self, stem, tree):
        """A stem, told without its tree, has this one from now on."""
        check_bounds(tree)
        self.own_head = one_older(with_named(self.own_head, stem + (tree,)))


def is_folder(tree, path):
    """Whether a folder stands at a path, the root too."""
    return path == "" or (path in tree and tree[path] is None)


def content_in(tree, path):
    """The content of the file at a path."""
    if path not in tree or tree[path] is None:
        raise NoPath(path)
    return tree[path]


def check_put(tree, path):
    """Refuses a path at which nothing may be put: the root, and where there is no folder for it."""
    if len(steps_in(path)) == 0 or not is_folder(tree, folder_of(path)):
        raise NoPath(path)


def check_free(tree, path):
    """Refuses a path at which nothing may be put, or something stands already."""
    check_put(tree, path)
    if path in tree:
        raise Twice(path)


def check_there(tree, path):
    """Refuses a path at which nothing stands, and the root, which is not among them."""
    if path not in tree:
        raise NoPath(path)


def with_paths(tree, more):
    """The tree with more tuples (path, content) in it."""
    other = dict(tree)
    other.update(more)
    return other


def without_path(tree, path):
    """The tree without what stands at a path, and beneath it."""
    return dict([(other, tree[other]) for other in tree if other != path and not is_beneath(other, path)])


def carried(tree, path, to):
    """What stands at a path and beneath it, as tuples (path, content), as it would stand elsewhere."""
    found = [(to, tree.get(path))]
    for other in tree:
        if is_beneath(other, path):
            steps = steps_in(other)[len(steps_in(path)):]
            found.append((path_to(to, "/".join(steps)), tree[other]))
    return found


def check_bounds(tree):
    """Refuses a tree of too many entries, in all or in one folder, too deep, or with a content too long."""
    folders = [folder_of(path) for path in tree]
    if len(tree) > MOST_TREE_ENTRIES or not all([folders.count(folder) <= MOST_ENTRIES for folder in folders]):
        raise TooMany()
    if not all([path.count("/") < MOST_TREE_DEEP for path in tree]):
        raise TooMany()
    if not all([content is None or len(content) <= MOST_SIGNS for content in tree.values()]):
        raise TooMany()
