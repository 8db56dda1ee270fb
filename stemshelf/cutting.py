"""How contents are cut into pieces, and sums parted into groups: by what they hold, not by where they stand."""

from stemshelf.signs import number_of

MOST_IN_ONE = 8


def pieces_of(content):
    """The pieces of a content, from the left."""
    pieces = []
    piece = ""
    for sign in content:
        piece = piece + sign
        if is_piece_full(piece):
            pieces.append(piece)
            piece = ""
    if piece != "":
        pieces.append(piece)
    return pieces


def is_piece_full(piece):
    """Whether a piece ends behind its last sign, whatever comes next."""
    if len(piece) < 2:
        return False
    return len(piece) == MOST_IN_ONE or (number_of(piece[-1]) + 7 * number_of(piece[-2])) % 5 == 0


def groups_of(sums):
    """How many sums each group has, from the left."""
    groups = []
    many = 0
    for one in sums:
        many += 1
        if many == MOST_IN_ONE or (many >= 2 and one % 3 == 0):
            groups.append(many)
            many = 0
    if many > 0:
        groups.append(many)
    return groups
