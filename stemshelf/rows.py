"""Rows: deeds written down as texts, read back, and done."""

from stemshelf.errors import NoRow
from stemshelf.signs import SIGNS

DEED_PARTS = {
    "keeper": ("word", "number"),
    "stem": ("word", "word"),
    "folder": ("word", "path"),
    "write": ("word", "path", "text"),
    "splice": ("word", "path", "number", "number", "text"),
    "remove": ("word", "path"),
    "move": ("word", "path", "path"),
    "copy": ("word", "path", "word", "path"),
    "seal": ("word", "word"),
    "grow": ("word", "word", "word"),
    "back": ("word",),
    "graft": ("word",),
    "drop": ("word",),
}

FIGURES = "0123456789"
MOST_FIGURES = 9
ROOT_WORD = "."


def row_of(deed):
    """The row of a deed."""
    kinds = DEED_PARTS[deed[0]]
    return " ".join([deed[0]] + [part_written(part, kind) for part, kind in zip(deed[1:], kinds, strict=True)])


def part_written(part, kind):
    """A deed's part as it stands in a row."""
    if kind == "path":
        return path_written(part)
    if kind == "number":
        return str(part)
    return part


def path_written(path):
    """A path as it stands in a row."""
    return ROOT_WORD if path == "" else path


def read_row(text):
    """The deed of a row."""
    return parts_read(text, DEED_PARTS.get(word_of(text)))


def word_of(text):
    """The word that a row begins with, of whatever is said."""
    if not isinstance(text, str) or not all([sign in SIGNS for sign in text]):
        raise NoRow()
    return text.partition(" ")[0]


def parts_read(text, kinds):
    """The tuple of a row's word and its parts, of the kinds that are due for this word; None where there are none."""
    if kinds is None:
        raise NoRow()
    words = words_in(text, kinds)
    if len(words) != 1 + len(kinds):
        raise NoRow()
    return tuple(words[:1] + [part_read(word, kind) for word, kind in zip(words[1:], kinds, strict=True)])


def words_in(text, kinds):
    """The words of a row; a text, which stands last, is one with all its blanks."""
    if "text" in kinds:
        return text.split(" ", len(kinds))
    return text.split(" ")


def part_read(word, kind):
    """A deed's part that is written so in a row."""
    if kind == "text":
        return word
    if word == "":
        raise NoRow()
    if kind == "number":
        return number_read(word)
    if kind == "path" and word == ROOT_WORD:
        return ""
    return word


def number_read(word):
    """The number that is written so."""
    if len(word) > MOST_FIGURES or not all([sign in FIGURES for sign in word]):
        raise NoRow()
    if len(word) > 1 and word.startswith("0"):
        raise NoRow()
    return int(word)


def done(house, deed):
    """Does a deed in a house, or in a plain one."""
    word = deed[0]
    if word == "keeper":
        house.keeper(deed[1], deed[2])
    elif word == "stem":
        house.stem(deed[1], deed[2])
    elif word == "folder":
        house.folder(deed[1], deed[2])
    elif word == "write":
        house.write(deed[1], deed[2], deed[3])
    elif word == "splice":
        house.splice(deed[1], deed[2], deed[3], deed[4], deed[5])
    elif word == "remove":
        house.remove(deed[1], deed[2])
    elif word == "move":
        house.move(deed[1], deed[2], deed[3])
    elif word == "copy":
        house.copy(deed[1], deed[2], deed[3], deed[4])
    elif word == "seal":
        house.seal(deed[1], deed[2])
    elif word == "grow":
        house.grow(deed[1], deed[2], deed[3])
    elif word == "back":
        house.back(deed[1])
    elif word == "graft":
        house.graft(deed[1])
    elif word == "drop":
        house.drop(deed[1])
    else:
        raise NoRow()
