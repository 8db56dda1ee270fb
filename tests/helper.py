"""For the tests: boards that tell their writes, what a house tells, plain copies, deeds by chance, accounts by hand."""

import random
from fractions import Fraction

from stemshelf.blocks import size_of, sum_of, tags_in
from stemshelf.boards import Boards
from stemshelf.copies import fetched
from stemshelf.cutting import groups_of, pieces_of
from stemshelf.errors import Bare, Grown, NoName, NoPath, OverBound, StemError, TooMany, Twice
from stemshelf.house import House

MOST = 999999999
DEEDS = ("keeper", "stem", "folder", "write", "splice", "remove", "move", "copy", "seal", "grow", "back", "graft", "drop")

# one of each deed, each of them done
STORY = (
    ("keeper", "ann", MOST),
    ("keeper", "bob", 5000),
    ("stem", "main", "ann"),
    ("folder", "main", "a"),
    ("write", "main", "a/b", "An oak is a tree, and an elm is a tree."),
    ("write", "main", "c", ""),
    ("splice", "main", "a/b", 3, 3, "ash"),
    ("seal", "main", "s"),
    ("move", "main", "c", "a/c"),
    ("copy", "main", "d", "s", ""),
    ("grow", "side", "s", "bob"),
    ("write", "side", "e", "another"),
    ("remove", "side", "a"),
    ("seal", "side", "t"),
    ("remove", "side", "e"),
    ("back", "side"),
    ("graft", "side"),
    ("stem", "other", "bob"),
    ("drop", "other"),
    ("drop", "t"),
)


class SeenBoards(Boards):
    """Boards that keep a list of the writes that were done, (board, number, row)."""

    def __init__(self, many):
        super().__init__(many)
        self.seen = []

    def write(self, board, number, row):
        super().write(board, number, row)
        self.seen.append((board, number, list(row)))


def every_cell(boards):
    return [{number: list(row) for number, row in shelf.items()} for shelf in boards.shelves]


def pool_state(pool):
    return [(pool.tag(number), pool.size(number), pool.count(number), pool.tags(number), pool.entries(number),
             pool.deep(number)) for number in pool.numbers()]


def all_of(house, boards):
    """All that a refused deed is due to leave as it was."""
    return house.head(), pool_state(house.pool()), boards.written(), every_cell(boards)


def tree_of(house, name):
    """A dict from paths to contents, None of a folder."""
    return {path: None if kind == 2 else house.read(name, path) for path, kind in house.paths(name)}


def trees_of(house):
    return {named[0]: tree_of(house, named[0]) for named in house.head()[2]}


def stands(house):
    """Keepers, stems and seals as Plain has them."""
    trees = trees_of(house)
    names = [(kind, name, (other, more, trees[name])) for name, kind, other, more, tag in house.head()[2]]
    return (dict(house.head()[1]), {name: named for kind, name, named in names if kind == 1},
            {name: named for kind, name, named in names if kind == 2})


def told_by(house):
    """All that a house tells, but for its age."""
    return house.head()[1:], trees_of(house)


def reached_by(boards, head):
    """A dict from the tags that a head's names lead to on the boards to (block, how often it is named)."""
    blocks, counts, waiting = {}, {}, [named[4] for named in head[2]]
    while waiting:
        tag = waiting.pop()
        counts[tag] = counts.get(tag, 0) + 1
        if tag not in blocks:
            blocks[tag] = fetched(boards, tag)
            waiting.extend(tags_in(blocks[tag]))
    return {tag: (blocks[tag], counts[tag]) for tag in blocks}


def do(house, word, *parts):
    return getattr(house, word)(*parts)


def do_all(house, deeds):
    for deed in deeds:
        do(house, *deed)
    return house


def new_house(many, *deeds):
    """Boards with a house behind these deeds."""
    boards = SeenBoards(many)
    return boards, do_all(House(boards), deeds)


def refusal_of(call, *parts):
    """The class and the fields of what refuses a call, or None."""
    try:
        call(*parts)
    except StemError as refusal:
        return refusal.__class__.__name__, vars(refusal)
    return None


def spoil_copies(boards, tag, places=(0, 1)):
    """Empties these of a block's two copies."""
    for place in places:
        boards.spoil(boards.twins(tag[0])[place], tag[0], None)


def is_plain_name(name):
    return 1 <= len(name) <= 8 and all(sign in "abcdefghijklmnopqrstuvwxyz0123456789" for sign in name)


def is_plain_path(path):
    return path == "" or len(path.split("/")) <= 8 and all(is_plain_name(step) for step in path.split("/"))


def folder_above(path):
    return path.rpartition("/")[0]


def moved_from(tree, path, to):
    """What stands at a path and beneath it, as it would stand elsewhere."""
    if path == "":
        return {to: None} | {to + "/" + other: content for other, content in tree.items()}
    return {to + other[len(path):]: content for other, content in tree.items()
            if other == path or other.startswith(path + "/")}


def without(tree, path):
    return {other: content for other, content in tree.items() if other != path and not other.startswith(path + "/")}


class Sizes:
    """The blocks that trees would have: each a tuple of its parts and its sum, with its size."""

    def __init__(self):
        self.sizes = {}
        self.known = {}

    def block(self, parts, fake, size):
        block = (parts, sum_of(fake))
        self.sizes[block] = size
        return block

    def content(self, content):
        """The top's block, and all blocks beneath it with it."""
        if content in self.known:
            return self.known[content]
        blocks = [self.block(piece, (0, piece), 6 + len(piece)) for piece in pieces_of(content)]
        found = set(blocks)
        level = 0
        while level == 0 or len(blocks) > 1:
            level += 1
            rows, begin = [], 0
            for many in groups_of([block[1] for block in blocks]) or [0]:
                group = tuple(blocks[begin:begin + many])
                begin += many
                fake = (1, level, tuple((1, 0, block[1]) for block in group))
                rows.append(self.block((level, group), fake, 8 + 8 * len(group)))
            blocks = rows
            found.update(rows)
        self.known[content] = blocks[0], found
        return self.known[content]

    def tree(self, tree, path=""):
        """The block of the folder at a path, and all blocks beneath it with it."""
        entries, found = [], set()
        for other in sorted(tree):
            if other != "" and folder_above(other) == path:
                top, more = self.tree(tree, other) if tree[other] is None else self.content(tree[other])
                entries.append((other.rpartition("/")[2], 2 if tree[other] is None else 1, top))
                found |= more
        fake = (2, tuple((name, kind, (1, 0, top[1])) for name, kind, top in entries))
        size = 6 + sum(14 + len(name) for name, kind, top in entries)
        folder = self.block(tuple(entries), fake, size)
        return folder, found | {folder}


class Plain:
    """Keepers with their bounds; stems (keeper, origin, tree) and seals (stem, turn, tree)."""

    def __init__(self):
        self.age = 0
        self.keepers, self.stems, self.seals = {}, {}, {}
        self.sizes = Sizes()

    def again(self):
        other = Plain()
        other.age, other.sizes = self.age, self.sizes
        other.keepers, other.stems, other.seals = dict(self.keepers), dict(self.stems), dict(self.seals)
        return other

    def stands(self):
        return self.keepers, self.stems, self.seals

    def aged(self, age):
        other = self.again()
        other.age = age
        return other

    def keeper_of(self, name):
        return self.stems[name if name in self.stems else self.seals[name][0]][0]

    def trees(self):
        return {name: named[2] for name, named in list(self.stems.items()) + list(self.seals.items())}

    def share(self, keeper):
        holders = {}
        for name, tree in self.trees().items():
            for block in self.sizes.tree(tree)[1]:
                holders.setdefault(block, set()).add(self.keeper_of(name))
        return sum((Fraction(self.sizes.sizes[block], len(some)) for block, some in holders.items() if keeper in some),
                   Fraction(0))

    def behind(self, word, parts):
        """These behind the deed, or what refuses it."""
        other = self.again()
        other.age += 1
        try:
            keeper = getattr(other, "do_" + word)(*parts)
        except StemError as refusal:
            return refusal
        for tree in other.trees().values():
            folders = [folder_above(path) for path in tree]
            if len(tree) > 60 or any(folders.count(folder) > 16 for folder in folders):
                return TooMany()
            if any(path.count("/") > 7 for path in tree):
                return TooMany()
            if any(content is not None and len(content) > 400 for content in tree.values()):
                return TooMany()
        if len(other.trees()) > 24 or len(other.keepers) > 8:
            return TooMany()
        if keeper is not None and self.keepers[keeper] < other.share(keeper) > self.share(keeper):
            return OverBound(keeper)
        return other

    def need(self, name, *where):
        if not any(name in some for some in where):
            raise NoName(name)

    def need_new(self, name):
        if not is_plain_name(name):
            raise NoName(name)
        if name in self.trees():
            raise Twice(name)

    def need_place(self, tree, path):
        if path == "" or not is_plain_path(path):
            raise NoPath(path)
        if folder_above(path) != "" and tree.get(folder_above(path), "") is not None:
            raise NoPath(path)

    def need_free(self, tree, path):
        self.need_place(tree, path)
        if path in tree:
            raise Twice(path)

    def change(self, stem, tree):
        self.stems[stem] = self.stems[stem][:2] + (tree,)
        return self.stems[stem][0]

    def do_keeper(self, name, bound):
        if not is_plain_name(name):
            raise NoName(name)
        self.keepers[name] = bound

    def do_stem(self, name, keeper):
        self.need_new(name)
        self.need(keeper, self.keepers)
        self.stems[name] = (keeper, "", {})
        return keeper

    def do_folder(self, stem, path):
        self.need(stem, self.stems)
        tree = self.stems[stem][2]
        self.need_free(tree, path)
        return self.change(stem, tree | {path: None})

    def do_write(self, stem, path, content):
        self.need(stem, self.stems)
        tree = self.stems[stem][2]
        self.need_place(tree, path)
        if tree.get(path, "") is None:
            raise NoPath(path)
        return self.change(stem, tree | {path: content})

    def do_splice(self, stem, path, at, many, text):
        self.need(stem, self.stems)
        tree = self.stems[stem][2]
        if tree.get(path) is None:
            raise NoPath(path)
        content = tree[path]
        at = min(at, len(content))
        return self.change(stem, tree | {path: content[:at] + text + content[min(len(content), at + many):]})

    def do_remove(self, stem, path):
        self.need(stem, self.stems)
        tree = self.stems[stem][2]
        if path not in tree:
            raise NoPath(path)
        return self.change(stem, without(tree, path))

    def do_move(self, stem, path, to):
        self.need(stem, self.stems)
        tree = self.stems[stem][2]
        if path not in tree:
            raise NoPath(path)
        if to == path or to.startswith(path + "/"):
            raise NoPath(to)
        self.need_free(tree, to)
        return self.change(stem, without(tree, path) | moved_from(tree, path, to))

    def do_copy(self, stem, to, name, path):
        self.need(stem, self.stems)
        self.need(name, self.trees())
        source = self.trees()[name]
        if path != "" and path not in source:
            raise NoPath(path)
        self.need_free(self.stems[stem][2], to)
        return self.change(stem, self.stems[stem][2] | moved_from(source, path, to))

    def do_seal(self, stem, name):
        self.need(stem, self.stems)
        self.need_new(name)
        self.seals[name] = (stem, self.age, self.stems[stem][2])

    def do_grow(self, name, seal, keeper):
        self.need_new(name)
        self.need(seal, self.seals)
        self.need(keeper, self.keepers)
        self.stems[name] = (keeper, seal, self.seals[seal][2])
        return keeper

    def do_back(self, stem):
        self.need(stem, self.stems)
        own = [seal for seal in self.seals.values() if seal[0] == stem]
        if not own:
            raise Bare(stem)
        self.change(stem, max(own, key=lambda seal: seal[1])[2])

    def do_graft(self, stem):
        self.need(stem, self.stems)
        keeper, origin, tree = self.stems[stem]
        if origin == "":
            raise Bare(stem)
        parent, last = self.seals[origin][:2]
        for name, (owner, turn, own) in list(self.seals.items()):
            if owner == parent and turn <= last:
                self.seals[name] = (stem, turn, own)
        self.stems[stem] = (keeper, self.stems[parent][1], tree)
        self.stems[parent] = (self.stems[parent][0], origin, self.stems[parent][2])
        return keeper

    def do_drop(self, name):
        self.need(name, self.trees())
        gone = [seal for seal in sorted(self.seals) if seal == name or self.seals[seal][0] == name]
        for seal in gone:
            if seal in [origin for keeper, origin, tree in self.stems.values()]:
                raise Grown(seal)
        for seal in gone:
            self.seals.pop(seal)
        self.stems.pop(name, None)


class Chance:
    """Deeds by chance, most of them of what is there."""

    def __init__(self, seed):
        self.chance = random.Random(seed)

    def one_of(self, some, others):
        some = sorted(some)
        if not some or self.chance.randrange(12) == 0:
            return self.chance.choice(others)
        return self.chance.choice(some)

    def new_name(self, plain):
        return self.one_of([f"{letter}{number}" for letter in "pqrs" for number in range(8)], ["A", "", "p0", "q0"])

    def path(self, tree, is_new):
        if self.chance.randrange(15) == 0:
            return self.chance.choice(["", "A", "a//b", "a/b/c/d/e/f/g/h/a", "x/y"])
        if not is_new and tree and self.chance.randrange(8):
            return self.chance.choice(sorted(tree))
        folders = [""] + [path for path in sorted(tree) if tree[path] is None or self.chance.randrange(20) == 0]
        folder, name = self.chance.choice(folders), self.chance.choice("abcdefghijklmnopqrs")
        return name if folder == "" else folder + "/" + name

    def content(self):
        many = self.chance.choice((0, 1, 2, 9, 20, 60, 200, 399, 400, 401))
        return "".join(self.chance.choice("ab ") for sign in range(many))

    def deed(self, plain):
        stem, seal = self.one_of(plain.stems, ["x", "ann", "p1"]), self.one_of(plain.seals, ["x", "ann", "q1"])
        tree = plain.stems[stem][2] if stem in plain.stems else {}
        keeper = self.one_of(plain.keepers, ["x", "zed"])
        word = self.chance.choice(
            ["keeper", "stem", "seal", "grow", "back", "graft", "drop", "remove", "move", "move", "copy", "copy", "splice",
             "splice", "folder", "folder", "folder", "write", "write", "write", "write"])
        if word == "keeper":
            bound = self.chance.choice((0, 100, 400, 1000, 3000, 999999999, 999999999))
            return word, self.one_of(["ann", "bob", "cid"], ["A", "d1", "d2", "d3", "d4", "d5", "d6", "d7"]), bound
        if word in ("back", "graft"):
            return word, stem
        if word == "drop":
            return word, self.one_of(plain.trees(), ["x"])
        if word == "stem":
            return word, self.new_name(plain), keeper
        if word == "seal":
            return word, stem, self.new_name(plain)
        if word == "grow":
            return word, self.new_name(plain), seal, keeper
        if word == "folder":
            return word, stem, self.path(tree, True)
        if word == "write":
            return word, stem, self.path(tree, self.chance.randrange(3)), self.content()
        if word == "splice":
            return (word, stem, self.path(tree, False), self.chance.randrange(420), self.chance.randrange(60),
                    self.content()[:self.chance.choice((0, 5, 50))])
        if word == "remove":
            return word, stem, self.path(tree, False)
        if word == "move":
            return word, stem, self.path(tree, False), self.path(tree, True)
        other = self.one_of(plain.trees(), ["x"])
        return word, stem, self.path(tree, True), other, self.path(plain.trees().get(other, {}), False)


def by_chance(seed, many):
    """Of so many deeds by chance those that are done, each with the plain copies behind it."""
    plain, chance = Plain(), Chance(seed)
    for turn in range(many):
        deed = chance.deed(plain)
        due = plain.behind(deed[0], deed[1:])
        if isinstance(due, Plain):
            plain = due
            yield deed, plain


class Node:
    """A cell of an account that is made by hand: each object is one cell."""

    def __init__(self, kind, parts):
        self.kind, self.parts = kind, parts

    def beneath(self):
        if self.kind == 0:
            return []
        return list(self.parts[1]) if self.kind == 1 else [node for name, kind, node in self.parts]

    def block(self, tags):
        if self.kind == 0:
            return (0, self.parts)
        if self.kind == 1:
            return (1, self.parts[0], tuple(tags[node] for node in self.parts[1]))
        return (2, tuple((name, kind, tags[node]) for name, kind, node in self.parts))


def piece(text):
    return Node(0, text)


def row(level, *nodes):
    return Node(1, (level, nodes))


def file(*texts):
    return row(1, *[piece(text) for text in texts])


def folder(*entries):
    return Node(2, entries)


def cells_under(roots):
    """All nodes, each once, behind those that it names."""
    order = []

    def walk(node):
        if node not in order:
            for other in node.beneath():
                walk(other)
            order.append(node)

    for root in roots:
        walk(root)
    return order


def made(names, keepers=(("ann", 9), ("bob", 9)), age=7, numbers=None, birth=0, more=()):
    """An account in which all is so, but for what its nodes break; more are nodes that no name has."""
    nodes = cells_under([named[4] for named in names] + list(more))
    numbers = numbers or range(1, len(nodes) + 1)
    tags, heights, counts, holders = {}, {}, {node: 0 for node in nodes}, {node: set() for node in nodes}
    for number, node in zip(numbers, nodes):
        tags[node] = (number, birth, sum_of(node.block(tags)))
        heights[node] = max([1 + heights[other] for other in node.beneath()], default=0)
        for other in node.beneath():
            counts[other] += 1
    keeper_of = {named[0]: named[2] for named in names if named[1] == 1}
    for named in names:
        counts[named[4]] += 1
        for node in cells_under([named[4]]):
            holders[node].add(keeper_of[named[0] if named[1] == 1 else named[2]])
    cells = sorted((tags[node][0], birth, node.block(tags), heights[node], counts[node], tuple(sorted(holders[node])))
                   for node in nodes)
    shares = {keeper: Fraction(0) for keeper, bound in keepers}
    for cell in cells:
        for keeper in cell[5]:
            shares[keeper] += Fraction(size_of(cell[2]), len(cell[5]))
    return (age, keepers, tuple(sorted(named[:4] + (tags[named[4]],) for named in names)), tuple(cells),
            tuple((keeper, (share.numerator, share.denominator)) for keeper, share in sorted(shares.items())))


def stem(root, name="main", keeper="ann"):
    return (name, 1, keeper, "", root)


def of_stem(root):
    return made([stem(root)])


def in_folder(*nodes):
    """A root with these nodes as files n0 and on."""
    return folder(*[(f"n{place}", 1, node) for place, node in enumerate(nodes)])
