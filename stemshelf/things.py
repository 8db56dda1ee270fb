"""Things, and the words that they are written down as."""

from stemshelf.errors import NoThing
from stemshelf.kinds import is_between, is_whole
from stemshelf.signs import SIGNS, is_text, number_of, sign_of

MOST_NUMBER = 999999999
MOST_SIGNS = 400
MOST_PARTS = 100
MOST_DEEP = 8

NUMBER_WORD = 0
TEXT_WORD = 1
TUPLE_WORD = 2


def is_thing(thing):
    """Whether this, whatever it is, is a thing."""
    return is_thing_within(thing, MOST_DEEP)


def is_thing_within(thing, deep):
    """Whether this is a thing at most so deep. It never goes deeper, however deep the tuples go."""
    if deep == 0:
        return False
    if not isinstance(thing, tuple):
        return is_between(thing, 0, MOST_NUMBER) or is_text(thing, 0, MOST_SIGNS)
    if len(thing) > MOST_PARTS:
        return False
    for part in thing:
        if not is_thing_within(part, deep - 1):
            return False
    return True


def words_of(thing):
    """The words of a thing."""
    if is_whole(thing):
        return [NUMBER_WORD, thing]
    if isinstance(thing, str):
        return [TEXT_WORD, len(thing)] + [number_of(sign) for sign in thing]
    words = [TUPLE_WORD, len(thing)]
    for part in thing:
        words.extend(words_of(part))
    return words


def thing_of(words):
    """The thing that has these words."""
    reader = WordReader(words)
    thing = read_thing(reader, MOST_DEEP)
    if not reader.is_through():
        raise NoThing()
    return thing


class WordReader:
    """Goes through words from the left, and refuses those that don't fit."""

    def __init__(self, words):
        self.words = words
        self.place = 0

    def is_through(self):
        """Whether no word is left."""
        return self.place == len(self.words)

    def word_to(self, most):
        """The next word, which is due to be from 0 to most."""
        if self.is_through() or not is_between(self.words[self.place], 0, most):
            raise NoThing()
        self.place += 1
        return self.words[self.place - 1]


def read_thing(reader, deep):
    """The thing whose words come next, at most so deep."""
    if deep == 0:
        raise NoThing()
    first = reader.word_to(TUPLE_WORD)
    if first == NUMBER_WORD:
        return reader.word_to(MOST_NUMBER)
    if first == TEXT_WORD:
        return read_text(reader)
    many = reader.word_to(MOST_PARTS)
    return tuple([read_thing(reader, deep - 1) for part in range(many)])


def read_text(reader):
    """The text whose length and signs come next."""
    many = reader.word_to(MOST_SIGNS)
    return "".join([sign_of(reader.word_to(len(SIGNS) - 1)) for sign in range(many)])
