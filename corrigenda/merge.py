"""The deeds of two patches of one value, brought together, and what is left of the second ones ([6.2], [6.3]).

Deeds are patches of the form that corrigenda.deeds tells.
"""

from corrigenda.deeds import changes_of, choice_of, mend_of, record_of, row_of
from corrigenda.parts import KEEP, SAME, units


def merged(kind, p, q):
    """The deeds that come of p and q; None if they quarrel."""
    if q == SAME or p == q:
        return p
    if p == SAME:
        return q
    if p[0] == "turn" or q[0] == "turn":
        return None
    word = kind[0]
    if word == "record":
        pieces = [merged(inner, a, b) for inner, a, b in zip(kind[1], p[1], q[1])]
        return None if None in pieces else record_of(pieces)
    if word == "choice":
        inside = merged(kind[1][p[1]], p[2], q[2])
        return None if inside is None else choice_of(p[1], inside)
    if word == "row":
        parts = merged_row(kind[1], p[1], q[1])
        return None if parts is None else row_of(parts)
    changes = merged_changes(kind, p[1], q[1])
    return None if changes is None else changes_of(word, changes)


def merged_changes(kind, firsts, seconds):
    """The changes of two sets, bags or tables; None if they quarrel."""
    changes = {change[0]: change for change in firsts}
    for change in seconds:
        both = merged_change(kind, changes.get(change[0], change), change)
        if both is None:
            return None
        changes[change[0]] = both
    return [changes[value] for value in sorted(changes)]


def merged_change(kind, one, two):
    """The changes of one element or key; None if they quarrel."""
    if one == two:
        return one
    if kind[0] != "table" or one[1][0] != "mend" or two[1][0] != "mend":
        return None
    inside = merged(kind[2], one[1][1], two[1][1])
    return None if inside is None else (one[0], ("mend", inside))


def places(parts):
    """For each item of a row, and for its end, the items added there, and the part that takes the item (None)."""
    found = []
    adds = []
    for part in units(parts):
        if part[0] == "add":
            adds.append(part)
        else:
            found.append((adds, part))
            adds = []
    return [*found, (adds, None)]


def merged_row(kind, firsts, seconds):
    """The parts of two rows; None if they quarrel. Kind is that of the items."""
    parts = []
    for (adds, part), (more, later) in zip(places(firsts), places(seconds)):
        if adds and more and adds != more:
            return None
        parts.extend(adds or more)
        if part is not None:
            both = merged_part(kind, part, later)
            if both is None:
                return None
            parts.append(both)
    return parts


def merged_part(kind, part, later):
    """What is done to one item; None if the parts quarrel."""
    if later == KEEP or part == later:
        return part
    if part == KEEP:
        return later
    if part[0] != "mend" or later[0] != "mend":
        return None
    inside = merged(kind, part[1], later[1])
    return None if inside is None else ("mend", inside)


def left(kind, p, q):
    """What is left of the deeds q behind the deeds p, with which they do not quarrel."""
    if p == SAME:
        return q
    if q == SAME or p == q:
        return SAME
    word = kind[0]
    if word == "record":
        return record_of([left(inner, a, b) for inner, a, b in zip(kind[1], p[1], q[1])])
    if word == "choice":
        return choice_of(p[1], left(kind[1][p[1]], p[2], q[2]))
    if word == "row":
        return row_of(left_of_row(kind[1], p[1], q[1]))
    done = {change[0]: change for change in p[1]}
    rest = [change for change in q[1] if change[0] not in done]
    if word == "table":
        rest = sorted(rest + left_inside(kind[2], done, q[1]))
    return changes_of(word, rest)


def left_inside(kind, done, changes):
    """What is left of the changes of a table whose keys both mend; kind is that of the entries."""
    found = []
    for key, change in changes:
        if change[0] == "mend" and key in done:
            inside = left(kind, done[key][1][1], change[1])
            if inside != SAME:
                found.append((key, ("mend", inside)))
    return found


def left_of_row(kind, firsts, seconds):
    """What is left of the parts of a row; kind is that of the items."""
    parts = []
    for (adds, part), (more, later) in zip(places(firsts), places(seconds)):
        parts.extend([KEEP] * len(adds) if adds else more)
        # What the first one has cut, the second one cannot do anything to.
        if part is not None and part[0] != "cut":
            parts.append(left_of_part(kind, part, later))
    return parts


def left_of_part(kind, part, later):
    """What is left to do to an item that the first one keeps or mends."""
    if part == KEEP or later == KEEP:
        return later
    return mend_of(left(kind, part[1], later[1]))
