"""The normal form of a patch ([5.1])."""

from corrigenda.effect import effect
from corrigenda.kind import count_values
from corrigenda.parts import KEEP, SAME, packed, settled
from corrigenda.patch import fitting


def standard(kind, patch):
    """The normal form of a patch."""
    word = patch[0]
    if word in ("same", "only", "turn"):
        return patch
    plain = plain_inside(kind, patch)
    if changes_nothing(plain):
        return SAME
    if not fits_one(kind, plain):
        return plain
    value = fitting(kind, plain)
    return settled(value, effect(kind, plain, value))


def plain_inside(kind, patch):
    """The patch, but with normal patches inside."""
    word = patch[0]
    if word == "record":
        return ("record", tuple([standard(inner, piece) for inner, piece in zip(kind[1], patch[1])]))
    if word == "choice":
        return ("choice", patch[1], standard(kind[1][patch[1]], patch[2]))
    if word == "row":
        return ("row", plain_parts(kind[1], patch[1]))
    if word == "table":
        return ("table", tuple([(key, plain_change(kind[2], change)) for key, change in patch[1]]))
    return patch


def plain_change(kind, change):
    """A part of a row or a change of a table, but with a normal patch inside; kind is that of the items."""
    return ("mend", standard(kind, change[1])) if change[0] == "mend" else change


def plain_parts(kind, parts):
    """The parts of a row in their normal form."""
    found = []
    adds = []
    for part in parts:
        for piece in pieces(plain_change(kind, part)):
            if piece[0] == "add":
                adds.append(piece)
                continue
            # Adds wait for the cuts that stand side by side with them.
            if piece[0] != "cut":
                found.extend(adds)
                adds = []
            found.append(piece)
    return packed(found + adds)


def pieces(part):
    """What comes of a part of a row: a "mend" that changes no item, or one item alone, is written otherwise."""
    if part[0] != "mend" or part[1][0] not in ("same", "only", "turn"):
        return [part]
    if part[1] == SAME:
        return [KEEP]
    return [("cut", part[1][1]), ("add", part[1][-1])]


def changes_nothing(patch):
    """Whether a patch with normal patches inside fits every value and changes none."""
    if patch[0] == "record":
        return all([piece == SAME for piece in patch[1]])
    return patch[0] in ("set", "bag", "table") and patch[1] == ()


def fits_one(kind, patch):
    """Whether a patch with normal patches inside fits one value alone."""
    word = patch[0]
    if word == "record":
        return all([is_settled(piece) for piece in patch[1]])
    if word == "choice":
        return is_settled(patch[2])
    if word == "row":
        return all([part[0] in ("cut", "add") for part in patch[1]])
    # Of no element can a bag be told to have so many and no more.
    if word == "bag" or count_values(kind[1], len(patch[1])) != len(patch[1]):
        return False
    return word == "set" or all([change[0] != "mend" or is_settled(change[1]) for _, change in patch[1]])


def is_settled(patch):
    """Whether a normal patch fits one value alone."""
    return patch[0] in ("only", "turn")
