"""One patch and then another one, as one patch ([4.2])."""

from corrigenda.effect import effect
from corrigenda.parts import packed, settled
from corrigenda.patch import turn_about


def joined(kind, p, q):
    """A patch that is p and then q; None if no value is left that fits."""
    if p[0] == "same":
        return q
    if q[0] == "same":
        return p
    if p[0] in ("only", "turn"):
        return settled(p[1], effect(kind, q, p[-1]))
    if q[0] in ("only", "turn"):
        return settled(effect(kind, turn_about(p), q[1]), q[-1])
    action = JOINED[kind[0]]
    return action(kind, p, q)


def joined_record(kind, p, q):
    """Two patches of a record as one."""
    pieces = [joined(inner, a, b) for inner, a, b in zip(kind[1], p[1], q[1])]
    return None if None in pieces else ("record", tuple(pieces))


def joined_choice(kind, p, q):
    """Two patches of a choice as one."""
    if p[1] != q[1]:
        return None
    piece = joined(kind[1][p[1]], p[2], q[2])
    return None if piece is None else ("choice", p[1], piece)


def joined_row(kind, p, q):
    """Two patches of a row as one."""
    later = list(q[1][::-1])
    parts = []
    for part in p[1]:
        if part[0] == "cut":
            parts.append(part)
            continue
        many = part[1] if part[0] == "keep" else 1
        # The part puts so many items there, which the next parts of q that are no "add" take.
        while many > 0:
            parts.extend(next_adds(later))
            taken = next_taken(later, many)
            piece = None if taken is None else joined_part(kind[1], part, taken)
            if piece is None:
                return None
            if piece != ("out",):
                parts.append(piece)
            many -= taken[1] if taken[0] == "keep" else 1
    parts.extend(next_adds(later))
    return None if later else ("row", packed(parts))


def next_adds(later):
    """The adds that come next, taken off the parts; these stand from the last one to the first one."""
    adds = []
    while later and later[-1][0] == "add":
        adds.append(later.pop())
    return adds


def next_taken(later, most):
    """The part that comes next, for at most so many items, taken off the parts; None if there is none."""
    if not later:
        return None
    part = later.pop()
    if part[0] == "keep" and part[1] > most:
        later.append(("keep", part[1] - most))
        return ("keep", most)
    return part


def joined_part(kind, part, later):
    """What comes of a part that puts items there and one that takes them; ("out",) for nothing, None if it cannot."""
    if part[0] == "keep":
        return later
    return part if later[0] == "keep" else joined_change(kind, part, later)


def joined_change(kind, change, later):
    """The same for "add" or "mend" and then "cut" or "mend", in a row or a table; kind is that of the items."""
    if change[0] == "add" and later[0] == "cut":
        return ("out",) if change[1] == later[1] else None
    if change[0] == "add":
        what = effect(kind, later[1], change[1])
        return None if what is None else ("add", what)
    if later[0] == "cut":
        what = effect(kind, turn_about(change[1]), later[1])
        return None if what is None else ("cut", what)
    patch = joined(kind, change[1], later[1])
    return None if patch is None else ("mend", patch)


def joined_set(kind, p, q):
    """Two patches of a set as one."""
    return joined_changes(kind, p, q, joined_word)


def joined_word(_, word, later):
    """Two changes of one element as one; None if no value is left."""
    if (word in ("add", "in")) != (later in ("cut", "in")):
        return None
    if word in ("cut", "in"):
        return "in" if later in ("add", "in") else "cut"
    return "add" if later in ("add", "in") else "out"


def joined_table(kind, p, q):
    """Two patches of a table as one."""
    return joined_changes(kind, p, q, joined_entry)


def joined_entry(kind, change, later):
    """Two changes of one key as one; None if no value is left."""
    if (change[0] in ("add", "mend")) != (later[0] in ("cut", "mend")):
        return None
    if change[0] == "out":
        return later
    if later[0] == "out":
        return change
    if change[0] == "cut":
        return ("mend", settled(change[1], later[1]))
    return joined_change(kind[2], change, later)


def joined_changes(kind, p, q, join):
    """Two patches of a set or table as one; join makes one change of two."""
    changes = {value: change for value, change in p[1]}
    for value, later in q[1]:
        change = join(kind, changes[value], later) if value in changes else later
        if change is None:
            return None
        changes[value] = change
    return (kind[0], tuple([(value, changes[value]) for value in sorted(changes)]))


def joined_bag(_, p, q):
    """Two patches of a bag as one."""
    changes = {value: (least, d) for value, least, d in p[1]}
    for value, least, d in q[1]:
        before, shift = changes.get(value, (0, 0))
        changes[value] = (max(before, least - shift), shift + d)
    found = [(value, *changes[value]) for value in sorted(changes)]
    return ("bag", tuple([change for change in found if change[1:] != (0, 0)]))


JOINED = {
    "record": joined_record,
    "choice": joined_choice,
    "row": joined_row,
    "set": joined_set,
    "bag": joined_bag,
    "table": joined_table,
}
