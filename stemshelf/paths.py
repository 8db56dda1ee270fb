"""Paths: the steps that they go, and which lies beneath which."""

from stemshelf.blocks import is_name
from stemshelf.errors import NoPath

MOST_STEPS = 8


def steps_in(path):
    """The NAMEs of a path in turn, none of the root."""
    if path == "":
        return []
    steps = path.split("/")
    if len(steps) > MOST_STEPS or not all([is_name(step) for step in steps]):
        raise NoPath(path)
    return steps


def is_beneath(path, other):
    """Whether a path lies beneath another one."""
    if other == "":
        return path != ""
    return path.startswith(other + "/")


def path_to(folder, name):
    """The path of what is called so in the folder at a path."""
    if folder == "":
        return name
    return folder + "/" + name


def folder_of(path):
    """The path of the folder in which a path that isn't the root lies."""
    return path.rpartition("/")[0]
