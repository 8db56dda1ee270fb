"""Marks, by which a row of words shows whether it was spoilt."""

from stemshelf.kinds import is_between

MARK_RESTS = 2147483647


def mark_of(words):
    """The mark of words."""
    return sum([word * place for place, word in enumerate(words, start=1)]) % MARK_RESTS


def sealed(words):
    """Words with their mark behind them."""
    return words + [mark_of(words)]


def unsealed(row):
    """The words ahead of a row's mark, or None where the row isn't sound."""
    if len(row) == 0 or not all([is_between(word, 0, MARK_RESTS - 1) for word in row]):
        return None
    words = row[:-1]
    if row[-1] != mark_of(words):
        return None
    return words
