"""What a patch fits, and what it makes ([2.1])."""


def effect(kind, patch, value):
    """What the patch makes of the value; None if it does not fit it (no value is None)."""
    word = patch[0]
    if word == "same":
        return value
    if word == "only":
        return value if value == patch[1] else None
    if word == "turn":
        return patch[2] if value == patch[1] else None
    action = EFFECTS[word]
    return action(kind, patch, value)


def record_effect(kind, patch, value):
    """What a patch of a record makes."""
    made = [effect(inner, piece, item) for inner, piece, item in zip(kind[1], patch[1], value)]
    return None if None in made else tuple(made)


def choice_effect(kind, patch, value):
    """What a patch of a choice makes."""
    _, k, piece = patch
    if value[0] != k:
        return None
    made = effect(kind[1][k], piece, value[1])
    return None if made is None else (k, made)


def row_effect(kind, patch, value):
    """What a patch of a row makes."""
    made = []
    at = 0
    for word, what in patch[1]:
        if word == "add":
            made.append(what)
            continue
        after = at + (what if word == "keep" else 1)
        if after > len(value):
            return None
        if word == "keep":
            made.extend(value[at:after])
        elif word == "mend":
            item = effect(kind[1], what, value[at])
            if item is None:
                return None
            made.append(item)
        elif value[at] != what:
            return None
        at = after
    return tuple(made) if at == len(value) else None


def set_effect(kind, patch, value):
    """What a patch of a set makes."""
    there = {item: True for item in value}
    for item, what in patch[1]:
        if (item in there) != (what in ("cut", "in")):
            return None
        if what == "cut":
            del there[item]
        elif what == "add":
            there[item] = True
    return tuple(sorted(there))


def bag_effect(kind, patch, value):
    """What a patch of a bag makes."""
    counts = {item: count for item, count in value}
    for item, least, d in patch[1]:
        count = counts.get(item, 0)
        if count < least:
            return None
        counts[item] = count + d
    return tuple([(item, counts[item]) for item in sorted(counts) if counts[item] > 0])


def table_effect(kind, patch, value):
    """What a patch of a table makes."""
    there = {key: entry for key, entry in value}
    for key, change in patch[1]:
        word = change[0]
        if (key in there) != (word in ("cut", "mend")):
            return None
        if word == "add":
            there[key] = change[1]
        elif word == "mend":
            there[key] = effect(kind[2], change[1], there[key])
            if there[key] is None:
                return None
        elif word == "cut":
            if there[key] != change[1]:
                return None
            del there[key]
    return tuple([(key, there[key]) for key in sorted(there)])


EFFECTS = {
    "record": record_effect,
    "choice": choice_effect,
    "row": row_effect,
    "set": set_effect,
    "bag": bag_effect,
    "table": table_effect,
}
