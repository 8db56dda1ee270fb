"""The house: its deeds, and what is read in it."""

from stemshelf.blocks import FILE_ENTRY
from stemshelf.changes import (
    entry_copied,
    entry_moved,
    entry_removed,
    file_spliced,
    file_written,
    folder_made,
    keeper_told,
    name_dropped,
    stem_begun,
    stem_grafted,
    stem_grown,
    stem_sealed,
    stem_set_back,
)
from stemshelf.contents import content_at
from stemshelf.errors import NoPath
from stemshelf.heads import lay_head
from stemshelf.names import named_so
from stemshelf.pool import Pool
from stemshelf.trees import all_in, entry_at


class House:
    """A new house on empty boards, or, by a head that lies on them and a pool that holds its tags, that one."""

    def __init__(self, boards, head=None, pool=None):
        self.boards = boards
        self.own_head = head
        self.own_pool = pool
        if head is None:
            self.own_head = (0, (), ())
            self.own_pool = Pool(boards)
            lay_head(boards, self.own_head)

    def keeper(self, name, bound):
        """The keeper of this name has this bound."""
        self.come_to(keeper_told(self.own_head, name, bound))

    def stem(self, name, keeper):
        """A new stem with an empty root."""
        self.come_to(stem_begun(self.own_pool, self.own_head, name, keeper))

    def folder(self, stem, path):
        """An empty folder."""
        self.come_to(folder_made(self.own_pool, self.own_head, stem, path))

    def write(self, stem, path, content):
        """The file at the path has this content."""
        self.come_to(file_written(self.own_pool, self.own_head, stem, path, content))

    def splice(self, stem, path, at, many, text):
        """In the file at the path so many signs from a place on are the text."""
        self.come_to(file_spliced(self.own_pool, self.own_head, stem, path, at, many, text))

    def remove(self, stem, path):
        """What stands at the path is gone."""
        self.come_to(entry_removed(self.own_pool, self.own_head, stem, path))

    def move(self, stem, path, to):
        """What stands at the path stands elsewhere."""
        self.come_to(entry_moved(self.own_pool, self.own_head, stem, path, to))

    def copy(self, stem, to, name, path):
        """What stands at the path in a stem or seal stands elsewhere, too."""
        self.come_to(entry_copied(self.own_pool, self.own_head, stem, to, name, path))

    def seal(self, stem, name):
        """A seal of the stem as it stands."""
        self.come_to(stem_sealed(self.own_head, stem, name))

    def grow(self, name, seal, keeper):
        """A new stem that begins as the seal."""
        self.come_to(stem_grown(self.own_pool, self.own_head, name, seal, keeper))

    def back(self, stem):
        """The stem is as its latest seal again."""
        self.come_to(stem_set_back(self.own_head, stem))

    def graft(self, stem):
        """The stem stands in its origin's place."""
        self.come_to(stem_grafted(self.own_pool, self.own_head, stem))

    def drop(self, name):
        """A seal is gone, or a stem with all its seals."""
        self.come_to(name_dropped(self.own_head, name))

    def come_to(self, behind):
        """Takes over the head that a deed comes to. What the old one reaches stays taken until the new one is laid."""
        for named in behind[2]:
            self.own_pool.hold(named[4])
        self.own_pool.sweep()
        self.own_pool.lay_draft()
        lay_head(self.boards, behind)
        for named in self.own_head[2]:
            self.own_pool.release(named[4])
        self.own_head = behind

    def read(self, name, path):
        """The content of the file at a path of a stem or seal."""
        entry = self.entry(name, path)
        if entry is None or entry[0] != FILE_ENTRY:
            raise NoPath(path)
        return content_at(self.own_pool, entry[1])

    def paths(self, name):
        """All that stands in a stem's or seal's tree but the root, as tuples (path, kind), sorted."""
        found = all_in(self.own_pool, named_so(self.own_head, name)[4])
        return [(path, kind) for path, kind, tag in found if path != ""]

    def tag_at(self, name, path):
        """The tag of what stands at a path of a stem or seal."""
        entry = self.entry(name, path)
        if entry is None:
            raise NoPath(path)
        return entry[1]

    def entry(self, name, path):
        """What stands at a path of a stem or seal, or None."""
        return entry_at(self.own_pool, named_so(self.own_head, name)[4], path)

    def head(self):
        """The head that the house has come to."""
        return self.own_head

    def age(self):
        """How old the house is."""
        return self.own_head[0]

    def pool(self):
        """The house's own pool."""
        return self.own_pool
