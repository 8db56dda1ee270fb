"""Histories: the seals that a stem goes back to, and a stem put in its origin's place."""

from stemshelf.heads import SEAL
from stemshelf.names import seal_called, seals_of, stem_called, with_named


def history_in(head, stem):
    """The names of a stem's seals by turns, ahead of these the history that it grew from."""
    origin = stem_called(head, stem)[3]
    own = [seal[0] for seal in seals_of(head, stem)]
    if origin == "":
        return own
    return history_up_to(head, origin) + own


def history_up_to(head, seal):
    """The history of a seal's stem up to the seal, with the seal itself."""
    history = history_in(head, seal_called(head, seal)[2])
    return history[:history.index(seal) + 1]


def grafted(head, stem):
    """The head, of the same age, with a stem put in its origin's place."""
    graft = stem_called(head, stem)
    origin = seal_called(head, graft[3])
    parent = stem_called(head, origin[2])
    for seal in seals_of(head, parent[0]):
        if seal[3] <= origin[3]:
            head = with_named(head, (seal[0], SEAL, stem, seal[3], seal[4]))
    head = with_named(head, with_origin(parent, origin[0]))
    return with_named(head, with_origin(graft, parent[3]))


def with_origin(stem, origin):
    """A stem with another origin."""
    return stem[:3] + (origin, stem[4])
