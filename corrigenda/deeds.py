"""What a patch does to the values that it fits: its deeds ([6.1]).

Deeds are told as patches of the form of [6.3]: ("same",) for nothing, and in every other patch no change, part or
piece that does nothing, but for the "keep" of rows and the ("same",) of records. So deeds that are the same are the
same patches. A patch does the same to every value that it fits.
"""

from corrigenda.least import least_patch
from corrigenda.parts import KEEP, SAME, packed


def deeds(kind, patch):
    """What the patch does."""
    word = patch[0]
    if word in ("same", "only"):
        return SAME
    if word == "turn":
        return deeds_of_turn(kind, patch)
    if word == "record":
        return record_of([deeds(inner, piece) for inner, piece in zip(kind[1], patch[1])])
    if word == "choice":
        return choice_of(patch[1], deeds(kind[1][patch[1]], patch[2]))
    if word == "row":
        return row_of([deeds_of_part(kind[1], part) for part in patch[1]])
    if word == "set":
        return changes_of("set", [change for change in patch[1] if change[1] in ("cut", "add")])
    if word == "bag":
        return changes_of("bag", [(item, max(0, -d), d) for item, _, d in patch[1] if d != 0])
    return changes_of("table", deeds_in_table(kind[2], patch[1]))


def deeds_of_turn(kind, patch):
    """What a "turn" does."""
    _, v, w = patch
    if kind[0] == "number" or (kind[0] == "choice" and v[0] != w[0]):
        return patch
    return deeds(kind, least_patch(kind, v, w))


def deeds_of_part(kind, part):
    """The part of a row that does what this one does; kind is that of the items."""
    return mend_of(deeds(kind, part[1])) if part[0] == "mend" else part


def deeds_in_table(kind, changes):
    """The changes of a table that do something; kind is that of the entries."""
    found = []
    for key, change in changes:
        if change[0] == "mend":
            inside = deeds(kind, change[1])
            if inside != SAME:
                found.append((key, ("mend", inside)))
        elif change[0] != "out":
            found.append((key, change))
    return found


def mend_of(inside):
    """The part of a row that does the deeds inside to its item."""
    return KEEP if inside == SAME else ("mend", inside)


def record_of(pieces):
    """The patch of a record that does the deeds of its pieces."""
    return SAME if all([piece == SAME for piece in pieces]) else ("record", tuple(pieces))


def choice_of(k, inside):
    """The patch of a choice that does the deeds inside."""
    return SAME if inside == SAME else ("choice", k, inside)


def row_of(parts):
    """The patch of a row that does what its parts do."""
    return SAME if all([part[0] == "keep" for part in parts]) else ("row", packed(parts))


def changes_of(word, changes):
    """The patch of a set, bag or table that does its changes."""
    return (word, tuple(changes)) if changes else SAME
