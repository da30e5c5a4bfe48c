"""All patches of a small size, and what the document says of distances and deeds, written a second time."""

from functools import lru_cache
from itertools import product

from tests.makers import NoFit, meant, values_of


def patches_of(kind, size, limit):
    """All patches with at most size patches, parts and changes in them, and values of a weight of at most limit."""
    if size < 1:
        return []
    found = [(("same",), 1)]
    values = [value for value, _ in values_of(kind, limit)]
    found += [(("only", v), 1) for v in values]
    found += [(("turn", v, w), 1) for v in values for w in values if v != w]
    word = kind[0]
    if word == "record":
        pieces = [patches_of(inner, size - 1, limit) for inner in kind[1]]
        found += [(("record", tuple(patch for patch, _ in some)), 1 + sum(many for _, many in some))
                  for some in product(*pieces) if 1 + sum(many for _, many in some) <= size]
    elif word == "choice":
        found += [(("choice", k, patch), 1 + many)
                  for k, inner in enumerate(kind[1]) for patch, many in patches_of(inner, size - 1, limit)]
    elif word == "row":
        parts = row_parts(kind[1], size - 1, limit)
        found += [(("row", some), 1 + many) for some, many in strings_of(parts, size - 1)]
    elif word != "number":
        found += [((word, changes), 1 + many) for changes, many in changes_of(kind, size - 1, limit)]
    return found


def mends(kind, size, limit):
    return [(("mend", patch), 1 + many) for patch, many in patches_of(kind, size - 1, limit)]


def row_parts(kind, size, limit):
    values = [value for value, _ in values_of(kind, limit)]
    singles = [("keep", 1), ("keep", 2)] + [(word, v) for word in ("cut", "add") for v in values]
    return [(part, 1) for part in singles] + mends(kind, size, limit)


def strings_of(parts, size):
    found = [((), 0)]
    last = found
    while last:
        last = [(row + (part,), many + more) for row, many in last for part, more in parts if many + more <= size]
        found = found + last
    return found


def changes_of(kind, size, limit):
    found = [((), 0)]
    for value in sorted(value for value, _ in values_of(kind[1], limit)):
        if kind[0] == "set":
            each = [((value, what), 1) for what in ("cut", "add", "in", "out")]
        elif kind[0] == "bag":
            each = [((value, least, d), 1) for least in range(limit) for d in range(-least, limit) if least or d]
        else:
            entries = [entry for entry, _ in values_of(kind[2], limit)]
            plain = [("out",)] + [(word, entry) for word in ("cut", "add") for entry in entries]
            each = [((value, change), 1) for change in plain]
            each += [((value, change), many) for change, many in mends(kind[2], size, limit)]
        found = found + [(old + (new,), many + more)
                         for old, many in found for new, more in each if many + more <= size]
    return found


def outcome(kind, patch, value):
    """What the patch makes of the value by the second meaning; None if it does not fit."""
    try:
        return meant(kind, patch, value)
    except NoFit:
        return None


def heavy(kind, value):
    """The weight of a value, a second time."""
    word = kind[0]
    if word == "number":
        return 1
    if word == "record":
        return 1 + sum(heavy(inner, item) for inner, item in zip(kind[1], value))
    if word == "choice":
        return 1 + heavy(kind[1][value[0]], value[1])
    if word == "bag":
        return 1 + sum(heavy(kind[1], item) * count for item, count in value)
    if word == "table":
        return 1 + sum(heavy(kind[1], key) + heavy(kind[2], entry) for key, entry in value)
    return 1 + sum(heavy(kind[1], item) for item in value)


@lru_cache(maxsize=None)
def far(kind, v, w):
    """The distance of two values, a second time: by the prefixes of rows."""
    word = kind[0]
    if v == w:
        return 0
    if word == "number" or word == "choice" and v[0] != w[0]:
        return heavy(kind, v) + heavy(kind, w)
    if word == "record":
        return sum(far(inner, a, b) for inner, a, b in zip(kind[1], v, w))
    if word == "choice":
        return far(kind[1][v[0]], v[1], w[1])
    if word == "row":
        return far_rows(kind[1], v, w)
    if word == "set":
        return sum(heavy(kind[1], item) for item in set(v) ^ set(w))
    if word == "bag":
        counts = [{item: count for item, count in value} for value in (v, w)]
        return sum(heavy(kind[1], item) * abs(counts[0].get(item, 0) - counts[1].get(item, 0))
                   for item in set(counts[0]) | set(counts[1]))
    tables = [dict(v), dict(w)]
    return sum(far(kind[2], tables[0][key], tables[1][key]) if key in tables[0] and key in tables[1]
               else heavy(kind[1], key) + heavy(kind[2], tables[key not in tables[0]][key])
               for key in set(tables[0]) | set(tables[1]))


def far_rows(kind, v, w):
    """A shortest way through the grid of both rows, by going from the nearest places on."""
    best = {(0, 0): 0}
    for x in range(len(v) + 1):
        for y in range(len(w) + 1):
            here = best[x, y]
            steps = []
            if x < len(v):
                steps.append((x + 1, y, heavy(kind, v[x])))
            if y < len(w):
                steps.append((x, y + 1, heavy(kind, w[y])))
            if x < len(v) and y < len(w):
                steps.append((x + 1, y + 1, far(kind, v[x], w[y])))
            for a, b, more in steps:
                best[a, b] = min(best.get((a, b), here + more), here + more)
    return best[len(v), len(w)]


class Quarrel(Exception):
    """Deeds that cannot be brought together, by the second meaning."""


def deeds_meant(kind, patch, value, least):
    """The deeds of [6.1] as a dict from each part of the value to what is done there; least tells least patches."""
    word = patch[0]
    if word in ("same", "only"):
        return {}
    if word == "turn":
        if kind[0] == "number" or kind[0] == "choice" and patch[1][0] != patch[2][0]:
            return {"turn": patch}
        return deeds_meant(kind, least(kind, patch[1], patch[2]), value, least)
    if word == "record":
        inside = {at: deeds_meant(kind[1][at], patch[1][at], value[at], least) for at in range(len(value))}
        return {at: done for at, done in inside.items() if done}
    if word == "choice":
        done = deeds_meant(kind[1][patch[1]], patch[2], value[1], least)
        return {"inner": done} if done else {}
    if word == "set":
        return {item: what for item, what in patch[1] if what in ("cut", "add")}
    if word == "bag":
        return {item: d for item, _, d in patch[1] if d}
    if word == "table":
        table, done = dict(value), {}
        for key, change in patch[1]:
            if change[0] in ("cut", "add"):
                done[key] = change
            elif change[0] == "mend" and (inside := deeds_meant(kind[2], change[1], table[key], least)):
                done[key] = inside
        return done
    return row_deeds_meant(kind[1], patch[1], value, least)


def row_deeds_meant(kind, parts, value, least):
    done, at = {}, 0
    for word, what in parts:
        if word == "add":
            done["place", at] = done.get(("place", at), ()) + (what,)
            continue
        if word == "cut":
            done["item", at] = ("cut", what)
        elif word == "mend" and (inside := deeds_meant(kind, what, value[at], least)):
            done["item", at] = inside
        at += what if word == "keep" else 1
    return done


def both_meant(one, two):
    """Both deeds brought together; Quarrel if they quarrel."""
    found = dict(one)
    for part, deed in two.items():
        if part not in one or one[part] == deed:
            found[part] = deed
        elif isinstance(one[part], dict) and isinstance(deed, dict):
            found[part] = both_meant(one[part], deed)
        else:
            raise Quarrel
    # A turn beside anything else that is done to the same value.
    if "turn" in found and len(found) > 1:
        raise Quarrel
    return found


def written(kind, done, value):
    """The patch that [6.3] writes for the deeds."""
    word = kind[0]
    if not done:
        return ("same",)
    if "turn" in done:
        return done["turn"]
    if word == "record":
        return ("record", tuple(written(kind[1][at], done.get(at, {}), value[at]) for at in range(len(value))))
    if word == "choice":
        return ("choice", value[0], written(kind[1][value[0]], done["inner"], value[1]))
    if word == "set":
        return ("set", tuple(sorted(done.items())))
    if word == "bag":
        return ("bag", tuple((item, max(0, -d), d) for item, d in sorted(done.items())))
    if word == "table":
        table = dict(value)
        return ("table", tuple((key, ("mend", written(kind[2], done[key], table[key])) if isinstance(done[key], dict)
                                else done[key]) for key in sorted(done)))
    parts = []
    for at in range(len(value) + 1):
        parts += [("add", item) for item in done.get(("place", at), ())]
        deed = done.get(("item", at))
        if at == len(value):
            break
        if deed is None:
            parts.append(("keep", parts.pop()[1] + 1 if parts and parts[-1][0] == "keep" else 1))
        else:
            parts.append(("mend", written(kind[1], deed, value[at])) if isinstance(deed, dict) else deed)
    return ("row", tuple(parts))


def together_meant(kind, value, p, q, least):
    """The outcome of p and q; None if they quarrel."""
    try:
        both = both_meant(deeds_meant(kind, p, value, least), deeds_meant(kind, q, value, least))
    except Quarrel:
        return None
    return written(kind, both, value)
