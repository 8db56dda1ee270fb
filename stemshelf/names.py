"""Names: which keepers, stems and seals stand in a head, and a head with others."""

from stemshelf.blocks import is_name
from stemshelf.errors import NoName, TooMany, Twice
from stemshelf.heads import MOST_KEEPERS, MOST_NAMES, SEAL, STEM


def one_called(some, name):
    """The one of some tuples that begins with a name, or None."""
    for one in some:
        if one[0] == name:
            return one
    return None


def keeper_called(head, name):
    """The keeper (NAME, bound) of this name."""
    keeper = one_called(head[1], name)
    if keeper is None:
        raise NoName(name)
    return keeper


def named_so(head, name):
    """The stem or seal of this name."""
    named = one_called(head[2], name)
    if named is None:
        raise NoName(name)
    return named


def stem_called(head, name):
    """The stem of this name; a seal's name won't do."""
    stem = named_so(head, name)
    if stem[1] != STEM:
        raise NoName(name)
    return stem


def seal_called(head, name):
    """The seal of this name; a stem's name won't do."""
    seal = named_so(head, name)
    if seal[1] != SEAL:
        raise NoName(name)
    return seal


def stems_in(head):
    """All stems, rising by names."""
    return [named for named in head[2] if named[1] == STEM]


def seals_of(head, stem):
    """The seals of the stem of this name, by turns."""
    seals = [named for named in head[2] if named[1] == SEAL and named[2] == stem]
    return sorted(seals, key=lambda seal: seal[3])


def tags_kept(head, keeper):
    """The tags of a keeper's stems, and of their seals."""
    tags = []
    for stem in stems_in(head):
        if stem[2] == keeper:
            tags.append(stem[4])
            tags.extend([seal[4] for seal in seals_of(head, stem[0])])
    return tags


def check_new_name(head, name):
    """Refuses a name that a new stem or seal can't have."""
    if not is_name(name):
        raise NoName(name)
    if one_called(head[2], name) is not None:
        raise Twice(name)


def check_room(head):
    """Refuses one more stem or seal where there is no room."""
    if len(head[2]) >= MOST_NAMES:
        raise TooMany()


def check_new_stem(head, name, keeper):
    """Refuses a new stem of this name and keeper where there can't be one."""
    check_new_name(head, name)
    keeper_called(head, keeper)
    check_room(head)


def put_among(some, one):
    """Tuples that rise by names, with this one new or in the place of the one of its name."""
    others = [other for other in some if other[0] != one[0]]
    return tuple(sorted(others + [one], key=lambda other: other[0]))


def with_keeper(head, name, bound):
    """The head with a keeper of this bound, a new one or one that was there."""
    keepers = put_among(head[1], (name, bound))
    if len(keepers) > MOST_KEEPERS:
        raise TooMany()
    return (head[0], keepers, head[2])


def with_named(head, named):
    """The head with this stem or seal, a new one or one that was there."""
    return (head[0], head[1], put_among(head[2], named))


def without_named(head, names):
    """The head without the stems and seals of these names."""
    return (head[0], head[1], tuple([named for named in head[2] if named[0] not in names]))


def one_older(head):
    """The head, one older."""
    return (head[0] + 1, head[1], head[2])
