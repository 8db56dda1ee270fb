"""The signs that texts are made of, and their numbers."""

SIGNS = " !\"#$&'()*+,-./0123456789:;<=>?@ABCDEFGHIJKLMNOPQRSTUVWXYZ[\\]^_`abcdefghijklmnopqrstuvwxyz{|}~"


def number_of(sign):
    """The number of a sign."""
    return SIGNS.index(sign)


def sign_of(number):
    """The sign of a number."""
    return SIGNS[number]


def is_text(thing, least, most):
    """Whether this is a text of signs alone, from least to most of them."""
    if not isinstance(thing, str) or not least <= len(thing) <= most:
        return False
    return all([sign in SIGNS for sign in thing])
