"""Patches: what they are, cost, fit and make, and how they are turned about ([2.1] to [2.3], [4.1])."""

from corrigenda.effect import effect
from corrigenda.errors import BadPatch, BadValue, Unfit
from corrigenda.form import is_patch
from corrigenda.kind import check_kind, heft, is_value, light_value


def check_patch(kind, patch):
    """Refuse what is no patch of the kind."""
    check_kind(kind)
    if not is_patch(kind, patch):
        raise BadPatch()


def cost(kind, patch):
    """The cost of a patch."""
    check_patch(kind, patch)
    return price(kind, patch)


def fits(kind, patch, value):
    """Whether the patch fits the value."""
    check_both(kind, patch, value)
    return effect(kind, patch, value) is not None


def made(kind, patch, value):
    """The value that the patch makes of the value."""
    check_both(kind, patch, value)
    outcome = effect(kind, patch, value)
    if outcome is None:
        raise Unfit()
    return outcome


def turned(kind, patch):
    """A patch that fits just what the patch makes, and leads back."""
    check_patch(kind, patch)
    return turn_about(patch)


def sample(kind, patch):
    """A value that the patch fits."""
    check_patch(kind, patch)
    return fitting(kind, patch)


def check_both(kind, patch, value):
    """Refuse what is no patch of the kind, then what is no value of it."""
    check_patch(kind, patch)
    if not is_value(kind, value):
        raise BadValue()


def price(kind, patch):
    """The cost of what is known to be a patch of the kind."""
    word = patch[0]
    if word in ("same", "only"):
        return 0
    if word == "turn":
        return heft(kind, patch[1]) + heft(kind, patch[2])
    if word == "record":
        return sum([price(inner, piece) for inner, piece in zip(kind[1], patch[1])])
    if word == "choice":
        return price(kind[1][patch[1]], patch[2])
    if word == "row":
        return sum([price_of_part(kind[1], part) for part in patch[1]])
    if word == "set":
        return sum([heft(kind[1], item) for item, what in patch[1] if what in ("cut", "add")])
    if word == "bag":
        return sum([heft(kind[1], item) * abs(d) for item, _, d in patch[1]])
    return sum([price_of_change(kind, key, change) for key, change in patch[1]])


def price_of_part(kind, part):
    """The cost of a part of a row; kind is that of the items."""
    word, what = part
    if word == "keep":
        return 0
    return price(kind, what) if word == "mend" else heft(kind, what)


def price_of_change(kind, key, change):
    """The cost of a change of a table."""
    if change[0] == "out":
        return 0
    if change[0] == "mend":
        return price(kind[2], change[1])
    return heft(kind[1], key) + heft(kind[2], change[1])


def turn_about(patch):
    """The turned patch of what is known to be a patch."""
    word = patch[0]
    if word in ("same", "only"):
        return patch
    if word == "turn":
        return ("turn", patch[2], patch[1])
    if word == "record":
        return ("record", tuple([turn_about(piece) for piece in patch[1]]))
    if word == "choice":
        return ("choice", patch[1], turn_about(patch[2]))
    if word == "row":
        return ("row", tuple([turn_change(part) for part in patch[1]]))
    if word == "set":
        return ("set", tuple([(item, turn_word(what)) for item, what in patch[1]]))
    if word == "bag":
        return ("bag", tuple([(item, least + d, -d) for item, least, d in patch[1]]))
    return ("table", tuple([(key, turn_change(change)) for key, change in patch[1]]))


def turn_change(change):
    """A part of a row or a change of a table, turned about."""
    if change[0] == "mend":
        return ("mend", turn_about(change[1]))
    return (turn_word(change[0]), *change[1:])


def turn_word(word):
    """The word for the way back."""
    if word == "cut":
        return "add"
    return "cut" if word == "add" else word


def fitting(kind, patch):
    """A value that fits what is known to be a patch of the kind."""
    word = patch[0]
    if word == "same":
        return light_value(kind)
    if word in ("only", "turn"):
        return patch[1]
    if word == "record":
        return tuple([fitting(inner, piece) for inner, piece in zip(kind[1], patch[1])])
    if word == "choice":
        return (patch[1], fitting(kind[1][patch[1]], patch[2]))
    if word == "row":
        return fitting_row(kind[1], patch[1])
    if word == "set":
        return tuple([item for item, what in patch[1] if what in ("cut", "in")])
    if word == "bag":
        return tuple([(item, least) for item, least, _ in patch[1] if least > 0])
    return fitting_table(kind[2], patch[1])


def fitting_row(kind, parts):
    """A row that the parts fit; kind is that of the items."""
    items = []
    for word, what in parts:
        if word == "keep":
            items.extend([light_value(kind)] * what)
        elif word == "cut":
            items.append(what)
        elif word == "mend":
            items.append(fitting(kind, what))
    return tuple(items)


def fitting_table(kind, changes):
    """A table that the changes fit; kind is that of the entries."""
    pairs = []
    for key, change in changes:
        if change[0] == "cut":
            pairs.append((key, change[1]))
        elif change[0] == "mend":
            pairs.append((key, fitting(kind, change[1])))
    return tuple(pairs)
