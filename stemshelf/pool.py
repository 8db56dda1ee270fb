"""The pool: which cells are taken, how often each is named, and the draft that isn't laid yet."""

from stemshelf.blocks import FOLDER, FOLDER_ENTRY, size_of, sum_of, tags_in
from stemshelf.copies import fetched, lay
from stemshelf.errors import Lost


class TakenCell:
    """What a pool knows of a taken cell without reading its block."""

    def __init__(self, own_tag, block):
        self.own_tag = own_tag
        self.own_size = size_of(block)
        self.named = tags_in(block)
        self.times_named = 0
        self.entries_beneath = 0
        self.steps_beneath = 0


class Pool:
    """Knows its taken cells; their blocks it reads from the boards each time, as these may be spoilt meanwhile."""

    def __init__(self, boards):
        self.boards = boards
        self.taken = {}
        self.by_sums = {}
        self.draft = {}
        self.first_maybe_free = 1

    def put(self, block, birth):
        """The tag of the block: that of an alike one, or that of a cell newly taken."""
        found = self.alike(block)
        if found is not None:
            return found
        tag = (self.free_number(), birth, sum_of(block))
        self.take(tag, block)
        self.draft[tag[0]] = block
        return tag

    def alike(self, block):
        """The tag of a taken block that is alike, or None where there surely is none."""
        unread = []
        for number in sorted(self.by_sums.get(sum_of(block), {})):
            try:
                found = self.block(self.tag(number))
            except Lost:
                unread.append(number)
            else:
                if found == block:
                    return self.tag(number)
        if len(unread) > 0:
            raise Lost(unread[0])
        return None

    def free_number(self):
        """The least number of a cell that isn't taken."""
        while self.first_maybe_free in self.taken:
            self.first_maybe_free += 1
        return self.first_maybe_free

    def take(self, tag, block):
        """Takes the cell of the tag for a block; the cells that the block names are taken already."""
        cell = TakenCell(tag, block)
        if block[0] == FOLDER:
            cell.entries_beneath = self.entries_of(block)
            cell.steps_beneath = self.steps_of(block)
        self.taken[tag[0]] = cell
        same_sum = self.by_sums.setdefault(tag[2], {})
        same_sum[tag[0]] = True
        for named in cell.named:
            self.hold(named)

    def entries_of(self, folder):
        """How many entries lie in a folder, at whatever depth."""
        return sum([1 + (self.entries(tag[0]) if kind == FOLDER_ENTRY else 0) for name, kind, tag in folder[1]])

    def steps_of(self, folder):
        """How many NAMEs the deepest path in a folder has."""
        steps = [1 + (self.deep(tag[0]) if kind == FOLDER_ENTRY else 0) for name, kind, tag in folder[1]]
        return max(steps, default=0)

    def block(self, tag):
        """The block of a tag."""
        if tag[0] in self.draft:
            return self.draft[tag[0]]
        return fetched(self.boards, tag)

    def hold(self, tag):
        """Counts the cell of the tag once more."""
        cell = self.taken[tag[0]]
        cell.times_named += 1

    def release(self, tag):
        """Counts the cell of the tag once less; what isn't named any more is free, and what it names is released."""
        waiting = [tag]
        while len(waiting) > 0:
            number = waiting.pop()[0]
            cell = self.taken[number]
            cell.times_named -= 1
            if cell.times_named == 0:
                self.free(number)
                waiting.extend(cell.named)

    def sweep(self):
        """Frees all that is counted 0, and what comes to be so."""
        unnamed = [number for number in self.numbers() if self.count(number) == 0]
        for number in unnamed:
            named = self.tags(number)
            self.free(number)
            for tag in named:
                self.release(tag)

    def free(self, number):
        """Lets a cell be taken no more; what it names is left to the caller."""
        self.by_sums[self.tag(number)[2]].pop(number)
        self.draft.pop(number, None)
        self.taken.pop(number)
        self.first_maybe_free = min(self.first_maybe_free, number)

    def lay_draft(self):
        """Lays all blocks of the draft on the boards; where the boards stop, the draft stays as it was."""
        for number in sorted(self.draft):
            lay(self.boards, number, self.tag(number)[1], self.draft[number])
        self.draft.clear()

    def numbers(self):
        """The numbers of all taken cells, rising."""
        return sorted(self.taken)

    def tag(self, number):
        """The tag of a taken cell."""
        return self.taken[number].own_tag

    def size(self, number):
        """The size of a taken cell's block."""
        return self.taken[number].own_size

    def count(self, number):
        """How often taken blocks and holdings name a taken cell."""
        return self.taken[number].times_named

    def tags(self, number):
        """The tags of a taken cell's block."""
        return list(self.taken[number].named)

    def entries(self, number):
        """How many entries lie in a taken cell's folder, 0 where it is none."""
        return self.taken[number].entries_beneath

    def deep(self, number):
        """How deep a taken cell's folder is, 0 where it is none."""
        return self.taken[number].steps_beneath
