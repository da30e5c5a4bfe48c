"""Values that tell two patches apart ([4.3], [5.2]). All patches here are in their normal form."""

from corrigenda.effect import effect
from corrigenda.joined import joined
from corrigenda.kind import light_value
from corrigenda.parts import SAME, units
from corrigenda.patch import fitting, fitting_row, turn_about
from corrigenda.standard import is_settled, standard
from corrigenda.supply import fresh, supply


def witness(kind, p, q):
    """A value that one of two unlike patches alone fits, or of which they make unlike ones."""
    if is_settled(p):
        return witness_of_one(kind, p, q)
    if is_settled(q):
        return witness_of_one(kind, q, p)
    if p == SAME:
        return unkept(kind, q)
    if q == SAME:
        return unkept(kind, p)
    action = WITNESSES[kind[0]]
    return action(kind, p, q)


def witness_of_one(kind, p, q):
    """Such a value if p fits one value alone."""
    if effect(kind, q, p[1]) != p[-1]:
        return p[1]
    # Both make the same of it, so q fits another value, too.
    return other(kind, q, p[1])


def other(kind, patch, value):
    """A value unlike this one that the patch fits, which fits several."""
    first = fitting(kind, patch)
    return first if first != value else second(kind, patch)


def second(kind, patch):
    """A value that the patch fits, which fits several, unlike the one that fitting tells."""
    first = fitting(kind, patch)
    word = patch[0]
    if word == "same":
        return [value for value in supply(kind, 2) if value != first][0]
    if word == "choice":
        return (patch[1], second(kind[1][patch[1]], patch[2]))
    if word == "record":
        at = [is_settled(piece) for piece in patch[1]].index(False)
        return exchanged(first, at, second(kind[1][at], patch[1][at]))
    if word == "row":
        takes = taken_by(patch[1])
        at = [is_settled(piece) for piece in takes].index(False)
        return exchanged(first, at, second(kind[1], takes[at]))
    if word == "bag":
        counts = {item: count for item, count in first}
        item = light_value(kind[1])
        counts[item] = counts.get(item, 0) + 1
        return tuple([(item, counts[item]) for item in sorted(counts)])
    if word == "set":
        return with_item(first, fresh(kind[1], {item: True for item, _ in patch[1]}))
    return second_table(kind, patch, first)


def second_table(kind, patch, first):
    """Such a value of a table."""
    for key, change in patch[1]:
        if change[0] == "mend" and not is_settled(change[1]):
            return with_entry(first, key, second(kind[2], change[1]))
    return with_entry(first, fresh(kind[1], {key: True for key, _ in patch[1]}), light_value(kind[2]))


def exchanged(items, at, item):
    """The items with this one in the place of another."""
    return (*items[:at], item, *items[at + 1:])


def with_item(items, item):
    """The set with this element besides."""
    return tuple(sorted([*items, item]))


def with_entry(pairs, key, entry):
    """The table with this entry for the key."""
    there = {each: old for each, old in pairs}
    there[key] = entry
    return tuple([(each, there[each]) for each in sorted(there)])


def unkept(kind, patch):
    """A value that a patch that is not ("same",) does not fit, or of which it makes another one."""
    word = patch[0]
    if word == "only":
        return other(kind, SAME, patch[1])
    if word == "turn":
        return patch[1]
    if word == "record":
        at = [piece == SAME for piece in patch[1]].index(False)
        return exchanged(light_value(kind), at, unkept(kind[1][at], patch[1][at]))
    if word == "choice":
        k = 0 if patch[1] > 0 else 1
        return (k, light_value(kind[1][k]))
    # What is empty is kept only where nothing has to be there, and nothing is put there.
    if effect(kind, patch, ()) != ():
        return ()
    value, _ = patch[1][0]
    return (value,) if word == "set" else ((value, light_value(kind[2])),)


def witness_record(kind, p, q):
    """Such a value for two patches of a record."""
    at = [piece == later for piece, later in zip(p[1], q[1])].index(False)
    value = witness(kind[1][at], p[1][at], q[1][at])
    base = p if effect(kind[1][at], p[1][at], value) is not None else q
    return exchanged(fitting(kind, base), at, value)


def witness_choice(kind, p, q):
    """Such a value for two patches of a choice."""
    if p[1] != q[1]:
        return fitting(kind, p)
    return (p[1], witness(kind[1][p[1]], p[2], q[2]))


def witness_row(kind, p, q):
    """Such a value for two patches of a row."""
    firsts = taken_by(p[1])
    seconds = taken_by(q[1])
    if len(firsts) != len(seconds):
        return fitting(kind, p if len(firsts) < len(seconds) else q)
    for at, piece in enumerate(firsts):
        before = domain(kind[1], piece)
        after = domain(kind[1], seconds[at])
        if before != after:
            item = witness(kind[1], before, after)
            base = p if effect(kind[1], before, item) is not None else q
            return exchanged(fitting(kind, base), at, item)
    return witness_of_places(kind[1], fitting_row(kind[1], p[1]), given_by(p[1]), given_by(q[1]))


def domain(kind, patch):
    """The normal patch that fits what the patch fits, and changes nothing."""
    return standard(kind, joined(kind, patch, turn_about(patch)))


def witness_of_places(kind, row, firsts, seconds):
    """Such a row if both patches fit the same rows, this one among them; firsts and seconds are what they make."""
    if len(firsts) != len(seconds):
        return row
    at = [one == two for one, two in zip(firsts, seconds)].index(False)
    one = firsts[at]
    two = seconds[at]
    return witness_of_place(kind, row, one, two) if one[0] < two[0] else witness_of_place(kind, row, two, one)


def witness_of_place(kind, row, one, two):
    """Such a row if these two are the first unlike ones of what is made; an add stands in front of an item taken."""
    at, piece = two
    if at < 0:
        return row
    if one[0] == at:
        return exchanged(row, at, witness(kind, one[1], piece))
    # Both make what they take in its order, and up to here the same, so the other one is an add.
    if effect(kind, piece, row[at]) != one[1]:
        return row
    return exchanged(row, at, other(kind, piece, row[at]))


def taken_by(parts):
    """For each item that the parts of a row take, the patch that it must fit."""
    found = []
    for word, what in units(parts):
        if word == "keep":
            found.append(SAME)
        elif word == "cut":
            found.append(("only", what))
        elif word == "mend":
            found.append(what)
    return found


def given_by(parts):
    """For each item that the parts of a row make: (place, patch) of the item taken for it, or (-1, item) of an add."""
    found = []
    at = 0
    for word, what in units(parts):
        if word == "add":
            found.append((-1, what))
            continue
        if word != "cut":
            found.append((at, what if word == "mend" else SAME))
        at += 1
    return found


def first_unlike(p, q):
    """The first value for which the changes of p and q are unlike, and both changes, None where there is none."""
    before = {change[0]: change for change in p[1]}
    after = {change[0]: change for change in q[1]}
    value = [each for each in sorted({**before, **after}) if before.get(each) != after.get(each)][0]
    return value, before.get(value), after.get(value)


def witness_set(kind, p, q):
    """Such a value for two patches of a set."""
    value, before, after = first_unlike(p, q)
    if before is not None and after is not None:
        return fitting(kind, p)
    # Only one of them asks whether the element is there, so the other one fits both with it and without it.
    free = fitting(kind, p if before is None else q)
    _, what = before or after
    return with_item(free, value) if what in ("add", "out") else free


def witness_bag(kind, p, q):
    """Such a value for two patches of a bag."""
    _, before, after = first_unlike(p, q)
    if before is None or after is None:
        # A missing change asks for nothing, and changes nothing.
        return fitting(kind, p if before is None else q)
    return fitting(kind, p if before[1] <= after[1] else q)


def witness_table(kind, p, q):
    """Such a value for two patches of a table."""
    key, before, after = first_unlike(p, q)
    if before is None or after is None:
        free = fitting(kind, p if before is None else q)
        _, change = before or after
        return with_entry(free, key, light_value(kind[2])) if change[0] in ("add", "out") else free
    if before[1][0] != "mend" or after[1][0] != "mend":
        return fitting(kind, p)
    first = before[1][1]
    entry = witness(kind[2], first, after[1][1])
    base = p if effect(kind[2], first, entry) is not None else q
    return with_entry(fitting(kind, base), key, entry)


WITNESSES = {
    "record": witness_record,
    "choice": witness_choice,
    "row": witness_row,
    "set": witness_set,
    "bag": witness_bag,
    "table": witness_table,
}
