"""What kind a value is of, asked of whatever value, for all modules."""


def is_whole(thing):
    """Whether this is a whole number: Python counts truths among the numbers, the program doesn't."""
    return isinstance(thing, int) and not isinstance(thing, bool)


def is_between(thing, least, most):
    """Whether this is a whole number from least to most, both of them too."""
    return is_whole(thing) and least <= thing <= most


def is_tuple_of(thing, many):
    """Whether this is a tuple of so many parts."""
    return isinstance(thing, tuple) and len(thing) == many
