"""Rows of deeds by chance, against plain copies that know nothing of blocks but their sizes."""

import random
import unittest
from fractions import Fraction

from stemshelf import changes
from stemshelf.blocks import sum_of
from stemshelf.boards import Boards
from stemshelf.contents import content_at
from stemshelf.cutting import groups_of, pieces_of
from stemshelf.errors import Bare, Grown, NoName, NoPath, OverBound, StemError, TooMany, Twice
from stemshelf.heads import is_head
from stemshelf.pool import Pool
from stemshelf.shares import share_in, space_in
from stemshelf.trees import all_in

BY_NAMES_ALONE = {"keeper": changes.keeper_told, "seal": changes.stem_sealed, "back": changes.stem_set_back,
                  "drop": changes.name_dropped}
BY_TREES = {"stem": changes.stem_begun, "folder": changes.folder_made, "write": changes.file_written,
            "splice": changes.file_spliced, "remove": changes.entry_removed, "move": changes.entry_moved,
            "copy": changes.entry_copied, "grow": changes.stem_grown, "graft": changes.stem_grafted}


def is_plain_name(name):
    return 1 <= len(name) <= 8 and all(sign in "abcdefghijklmnopqrstuvwxyz0123456789" for sign in name)


def is_plain_path(path):
    return path == "" or len(path.split("/")) <= 8 and all(is_plain_name(step) for step in path.split("/"))


def folder_above(path):
    return path.rpartition("/")[0]


def moved_from(tree, path, to):
    """What stands at a path and beneath it, as it would stand elsewhere."""
    if path == "":
        return {to: None} | {to + "/" + other: content for other, content in tree.items()}
    return {to + other[len(path):]: content for other, content in tree.items()
            if other == path or other.startswith(path + "/")}


def without(tree, path):
    return {other: content for other, content in tree.items() if other != path and not other.startswith(path + "/")}


class Sizes:
    """The blocks that trees would have: each a tuple of its parts and its sum, with its size."""

    def __init__(self):
        self.sizes = {}
        self.known = {}

    def block(self, parts, fake, size):
        block = (parts, sum_of(fake))
        self.sizes[block] = size
        return block

    def content(self, content):
        """The top's block, and all blocks beneath it with it."""
        if content in self.known:
            return self.known[content]
        blocks = [self.block(piece, (0, piece), 6 + len(piece)) for piece in pieces_of(content)]
        found = set(blocks)
        level = 0
        while level == 0 or len(blocks) > 1:
            level += 1
            rows, begin = [], 0
            for many in groups_of([block[1] for block in blocks]) or [0]:
                group = tuple(blocks[begin:begin + many])
                begin += many
                fake = (1, level, tuple((1, 0, block[1]) for block in group))
                rows.append(self.block((level, group), fake, 8 + 8 * len(group)))
            blocks = rows
            found.update(rows)
        self.known[content] = blocks[0], found
        return self.known[content]

    def tree(self, tree, path=""):
        """The block of the folder at a path, and all blocks beneath it with it."""
        entries, found = [], set()
        for other in sorted(tree):
            if other != "" and folder_above(other) == path:
                top, more = self.tree(tree, other) if tree[other] is None else self.content(tree[other])
                entries.append((other.rpartition("/")[2], 2 if tree[other] is None else 1, top))
                found |= more
        fake = (2, tuple((name, kind, (1, 0, top[1])) for name, kind, top in entries))
        size = 6 + sum(14 + len(name) for name, kind, top in entries)
        folder = self.block(tuple(entries), fake, size)
        return folder, found | {folder}


class Plain:
    """Keepers with their bounds; stems (keeper, origin, tree) and seals (stem, turn, tree)."""

    def __init__(self):
        self.age = 0
        self.keepers, self.stems, self.seals = {}, {}, {}
        self.sizes = Sizes()

    def again(self):
        other = Plain()
        other.age, other.sizes = self.age, self.sizes
        other.keepers, other.stems, other.seals = dict(self.keepers), dict(self.stems), dict(self.seals)
        return other

    def keeper_of(self, name):
        return self.stems[name if name in self.stems else self.seals[name][0]][0]

    def trees(self):
        return {name: named[2] for name, named in list(self.stems.items()) + list(self.seals.items())}

    def share(self, keeper):
        holders = {}
        for name, tree in self.trees().items():
            for block in self.sizes.tree(tree)[1]:
                holders.setdefault(block, set()).add(self.keeper_of(name))
        return sum((Fraction(self.sizes.sizes[block], len(some)) for block, some in holders.items() if keeper in some),
                   Fraction(0))

    def behind(self, word, parts):
        """These behind the deed, or what refuses it."""
        other = self.again()
        other.age += 1
        try:
            keeper = getattr(other, "do_" + word)(*parts)
        except StemError as refusal:
            return refusal
        for tree in other.trees().values():
            folders = [folder_above(path) for path in tree]
            if len(tree) > 60 or any(folders.count(folder) > 16 for folder in folders):
                return TooMany()
            if any(path.count("/") > 7 for path in tree):
                return TooMany()
            if any(content is not None and len(content) > 400 for content in tree.values()):
                return TooMany()
        if len(other.trees()) > 24 or len(other.keepers) > 8:
            return TooMany()
        if keeper is not None and self.keepers[keeper] < other.share(keeper) > self.share(keeper):
            return OverBound(keeper)
        return other

    def need(self, name, *where):
        if not any(name in some for some in where):
            raise NoName(name)

    def need_new(self, name):
        if not is_plain_name(name):
            raise NoName(name)
        if name in self.trees():
            raise Twice(name)

    def need_place(self, tree, path):
        if path == "" or not is_plain_path(path):
            raise NoPath(path)
        if folder_above(path) != "" and tree.get(folder_above(path), "") is not None:
            raise NoPath(path)

    def need_free(self, tree, path):
        self.need_place(tree, path)
        if path in tree:
            raise Twice(path)

    def change(self, stem, tree):
        self.stems[stem] = self.stems[stem][:2] + (tree,)
        return self.stems[stem][0]

    def do_keeper(self, name, bound):
        if not is_plain_name(name):
            raise NoName(name)
        self.keepers[name] = bound

    def do_stem(self, name, keeper):
        self.need_new(name)
        self.need(keeper, self.keepers)
        self.stems[name] = (keeper, "", {})
        return keeper

    def do_folder(self, stem, path):
        self.need(stem, self.stems)
        tree = self.stems[stem][2]
        self.need_free(tree, path)
        return self.change(stem, tree | {path: None})

    def do_write(self, stem, path, content):
        self.need(stem, self.stems)
        tree = self.stems[stem][2]
        self.need_place(tree, path)
        if tree.get(path, "") is None:
            raise NoPath(path)
        return self.change(stem, tree | {path: content})

    def do_splice(self, stem, path, at, many, text):
        self.need(stem, self.stems)
        tree = self.stems[stem][2]
        if tree.get(path) is None:
            raise NoPath(path)
        content = tree[path]
        at = min(at, len(content))
        return self.change(stem, tree | {path: content[:at] + text + content[min(len(content), at + many):]})

    def do_remove(self, stem, path):
        self.need(stem, self.stems)
        tree = self.stems[stem][2]
        if path not in tree:
            raise NoPath(path)
        return self.change(stem, without(tree, path))

    def do_move(self, stem, path, to):
        self.need(stem, self.stems)
        tree = self.stems[stem][2]
        if path not in tree:
            raise NoPath(path)
        if to == path or to.startswith(path + "/"):
            raise NoPath(to)
        self.need_free(tree, to)
        return self.change(stem, without(tree, path) | moved_from(tree, path, to))

    def do_copy(self, stem, to, name, path):
        self.need(stem, self.stems)
        self.need(name, self.trees())
        source = self.trees()[name]
        if path != "" and path not in source:
            raise NoPath(path)
        self.need_free(self.stems[stem][2], to)
        return self.change(stem, self.stems[stem][2] | moved_from(source, path, to))

    def do_seal(self, stem, name):
        self.need(stem, self.stems)
        self.need_new(name)
        self.seals[name] = (stem, self.age, self.stems[stem][2])

    def do_grow(self, name, seal, keeper):
        self.need_new(name)
        self.need(seal, self.seals)
        self.need(keeper, self.keepers)
        self.stems[name] = (keeper, seal, self.seals[seal][2])
        return keeper

    def do_back(self, stem):
        self.need(stem, self.stems)
        own = [seal for seal in self.seals.values() if seal[0] == stem]
        if not own:
            raise Bare(stem)
        self.change(stem, max(own, key=lambda seal: seal[1])[2])

    def do_graft(self, stem):
        self.need(stem, self.stems)
        keeper, origin, tree = self.stems[stem]
        if origin == "":
            raise Bare(stem)
        parent, last = self.seals[origin][:2]
        for name, (owner, turn, own) in list(self.seals.items()):
            if owner == parent and turn <= last:
                self.seals[name] = (stem, turn, own)
        self.stems[stem] = (keeper, self.stems[parent][1], tree)
        self.stems[parent] = (self.stems[parent][0], origin, self.stems[parent][2])
        return keeper

    def do_drop(self, name):
        self.need(name, self.trees())
        gone = [seal for seal in sorted(self.seals) if seal == name or self.seals[seal][0] == name]
        for seal in gone:
            if seal in [origin for keeper, origin, tree in self.stems.values()]:
                raise Grown(seal)
        for seal in gone:
            self.seals.pop(seal)
        self.stems.pop(name, None)


class Chance:
    """Deeds by chance, most of them of what is there."""

    def __init__(self, seed):
        self.chance = random.Random(seed)

    def one_of(self, some, others):
        some = sorted(some)
        if not some or self.chance.randrange(12) == 0:
            return self.chance.choice(others)
        return self.chance.choice(some)

    def new_name(self, plain):
        return self.one_of([f"{letter}{number}" for letter in "pqrs" for number in range(8)], ["A", "", "p0", "q0"])

    def path(self, tree, is_new):
        if self.chance.randrange(15) == 0:
            return self.chance.choice(["", "A", "a//b", "a/b/c/d/e/f/g/h/a", "x/y"])
        if not is_new and tree and self.chance.randrange(8):
            return self.chance.choice(sorted(tree))
        folders = [""] + [path for path in sorted(tree) if tree[path] is None or self.chance.randrange(20) == 0]
        folder, name = self.chance.choice(folders), self.chance.choice("abcdefghijklmnopqrs")
        return name if folder == "" else folder + "/" + name

    def content(self):
        many = self.chance.choice((0, 1, 2, 9, 20, 60, 200, 399, 400, 401))
        return "".join(self.chance.choice("ab ") for sign in range(many))

    def deed(self, plain):
        stem, seal = self.one_of(plain.stems, ["x", "ann", "p1"]), self.one_of(plain.seals, ["x", "ann", "q1"])
        tree = plain.stems[stem][2] if stem in plain.stems else {}
        keeper = self.one_of(plain.keepers, ["x", "zed"])
        word = self.chance.choice(
            ["keeper", "stem", "seal", "grow", "back", "graft", "drop", "remove", "move", "move", "copy", "copy", "splice",
             "splice", "folder", "folder", "folder", "write", "write", "write", "write"])
        if word == "keeper":
            bound = self.chance.choice((0, 100, 400, 1000, 3000, 999999999, 999999999))
            return word, self.one_of(["ann", "bob", "cid"], ["A", "d1", "d2", "d3", "d4", "d5", "d6", "d7"]), bound
        if word in ("back", "graft"):
            return word, stem
        if word == "drop":
            return word, self.one_of(plain.trees(), ["x"])
        if word == "stem":
            return word, self.new_name(plain), keeper
        if word == "seal":
            return word, stem, self.new_name(plain)
        if word == "grow":
            return word, self.new_name(plain), seal, keeper
        if word == "folder":
            return word, stem, self.path(tree, True)
        if word == "write":
            return word, stem, self.path(tree, self.chance.randrange(3)), self.content()
        if word == "splice":
            return (word, stem, self.path(tree, False), self.chance.randrange(420), self.chance.randrange(60),
                    self.content()[:self.chance.choice((0, 5, 50))])
        if word == "remove":
            return word, stem, self.path(tree, False)
        if word == "move":
            return word, stem, self.path(tree, False), self.path(tree, True)
        other = self.one_of(plain.trees(), ["x"])
        return word, stem, self.path(tree, True), other, self.path(plain.trees().get(other, {}), False)


class ManyDeedsTest(unittest.TestCase):
    def behind(self, word, *parts):
        if word in BY_NAMES_ALONE:
            return BY_NAMES_ALONE[word](self.head, *parts)
        return BY_TREES[word](self.pool, self.head, *parts)

    def take_over(self, head):
        for named in head[2]:
            self.pool.hold(named[4])
        self.pool.sweep()
        self.pool.lay_draft()
        for named in self.head[2]:
            self.pool.release(named[4])
        self.head = head

    def state(self):
        return self.head, [(number, self.pool.tag(number), self.pool.count(number)) for number in self.pool.numbers()]

    def tree(self, root):
        return {path: None if kind == 2 else content_at(self.pool, tag)
                for path, kind, tag in all_in(self.pool, root) if path != ""}

    def check(self, plain):
        self.assertTrue(is_head(self.head))
        self.assertEqual(self.head[:2], (plain.age, tuple(sorted(plain.keepers.items()))))
        stems = {name: (other, more, self.tree(tag)) for name, kind, other, more, tag in self.head[2] if kind == 1}
        seals = {name: (other, more, self.tree(tag)) for name, kind, other, more, tag in self.head[2] if kind == 2}
        self.assertEqual((stems, seals), (plain.stems, plain.seals))
        for keeper in plain.keepers:
            share = plain.share(keeper)
            self.assertEqual(share_in(self.pool, self.head, keeper), (share.numerator, share.denominator))
        blocks = set().union(*[plain.sizes.tree(tree)[1] for tree in plain.trees().values()])
        self.assertEqual(len(self.pool.numbers()), len(blocks))
        self.assertEqual(space_in(self.pool), sum(plain.sizes.sizes[block] for block in blocks))

    def go(self, seed, many):
        self.boards = Boards(2 + seed % 3)
        self.pool, self.head = Pool(self.boards), (0, (), ())
        plain, chance, met = Plain(), Chance(seed), {}
        for turn in range(many):
            deed = chance.deed(plain)
            due = plain.behind(deed[0], deed[1:])
            ahead = self.state()
            if isinstance(due, Plain):
                self.take_over(self.behind(*deed))
                plain = due
                self.check(plain)
            else:
                with self.assertRaises(StemError, msg=deed) as caught:
                    self.behind(*deed)
                self.assertIs(caught.exception.__class__, due.__class__, deed)
                self.assertEqual(vars(caught.exception), vars(due), deed)
                self.assertEqual(self.state(), ahead)
            met[(deed[0], due.__class__.__name__)] = met.get((deed[0], due.__class__.__name__), 0) + 1
        return met

    def test_many(self):
        met = {}
        for seed in range(6):
            for key, many in self.go(seed, 200).items():
                met[key] = met.get(key, 0) + many
        self.assertEqual({word for word, answer in met if answer == "Plain"}, set(BY_NAMES_ALONE) | set(BY_TREES))
        self.assertEqual({answer for word, answer in met},
                         {"Plain", "NoName", "NoPath", "Twice", "TooMany", "OverBound", "Bare", "Grown"})


if __name__ == "__main__":
    unittest.main()
