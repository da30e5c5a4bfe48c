"""The distance of two values, a least patch, and a paper that no patch is cheaper ([3.1] to [3.3])."""

from corrigenda.errors import BadValue
from corrigenda.gap import climb, gap, lone, shared, shifts
from corrigenda.kind import check_kind, heft, is_value
from corrigenda.paper import paper_of, worth_of
from corrigenda.parts import KEEP, SAME, packed


def distance(kind, v, w):
    """The least cost of a patch that leads from v to w."""
    check_values(kind, v, w)
    return gap(kind, v, w)


def least(kind, v, w):
    """A patch that leads from v to w and costs no more than the distance."""
    check_values(kind, v, w)
    return least_patch(kind, v, w)


def bound(kind, v, w):
    """A bound of v and w whose worth is the distance."""
    check_values(kind, v, w)
    return paper_of(kind, v, w)


def worth(kind, v, w, paper):
    """The worth of a bound of v and w; None if the paper is none, or is not right."""
    check_values(kind, v, w)
    return worth_of(kind, v, w, paper)


def check_values(kind, v, w):
    """Refuse what is no kind, then what is no value of it."""
    check_kind(kind)
    if not is_value(kind, v) or not is_value(kind, w):
        raise BadValue()


def least_patch(kind, v, w):
    """A least patch from v to w."""
    if v == w:
        return SAME
    word = kind[0]
    if word == "record":
        return ("record", tuple([least_patch(inner, a, b) for inner, a, b in zip(kind[1], v, w)]))
    if word == "choice" and v[0] == w[0]:
        return ("choice", v[0], least_patch(kind[1][v[0]], v[1], w[1]))
    if word == "row":
        return ("row", least_parts(kind[1], v, w))
    if word == "set":
        return ("set", tuple([(item, "add" if d > 0 else "cut") for item, d in shifts(kind, v, w)]))
    if word == "bag":
        return ("bag", tuple([(item, max(0, -d), d) for item, d in shifts(kind, v, w)]))
    if word == "table":
        return ("table", least_changes(kind, v, w))
    return ("turn", v, w)


def least_parts(kind, v, w):
    """The parts of a least patch of two rows; kind is that of the items."""
    heights = climb(kind, v, w)
    x = len(v)
    y = len(w)
    parts = []
    # Back from the end by a way on which the heights were reached.
    while x > 0 or y > 0:
        part = last_part(kind, v[:x], w[:y], heights)
        parts.append(part)
        if part[0] != "add":
            x -= 1
        if part[0] != "cut":
            y -= 1
    parts.reverse()
    return packed(parts)


def last_part(kind, v, w, heights):
    """The last part of a least patch of two rows that are not both empty."""
    x = len(v)
    y = len(w)
    here = heights[x][y]
    if x > 0 and y > 0 and here == heights[x - 1][y - 1] + gap(kind, v[-1], w[-1]):
        return KEEP if v[-1] == w[-1] else ("mend", least_patch(kind, v[-1], w[-1]))
    if x > 0 and here == heights[x - 1][y] + heft(kind, v[-1]):
        return ("cut", v[-1])
    return ("add", w[-1])


def least_changes(kind, v, w):
    """The changes of a least patch of two tables."""
    changes = [(key, ("cut", entry)) for key, entry in lone(v, w)]
    changes.extend([(key, ("add", entry)) for key, entry in lone(w, v)])
    changes.extend([(key, ("mend", least_patch(kind[2], a, b))) for key, a, b in shared(v, w) if a != b])
    # No key stands there twice, so the changes themselves are never compared.
    return tuple(sorted(changes))
