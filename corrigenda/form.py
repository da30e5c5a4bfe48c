"""What has the form of a patch, and how large it is ([2.1], [2.3])."""

from corrigenda.kind import is_rising, is_tuple, is_value, is_within

MOST_PATCHES = 1000
MOST_COUNT = 10000


def is_patch(kind, patch):
    """Whether it is a patch of the kind that may be handed in."""
    return measure(kind, patch, MOST_PATCHES) is not None


def measure(kind, patch, room):
    """How many patches, parts and changes are in a patch, itself counted; None if it is none, or more than room."""
    if room < 1 or not isinstance(patch, tuple) or len(patch) == 0:
        return None
    word = patch[0]
    if word == "same":
        return 1 if len(patch) == 1 else None
    if word == "only":
        return 1 if len(patch) == 2 and is_value(kind, patch[1]) else None
    if word == "turn":
        return 1 if is_turn(kind, patch) else None
    if word != kind[0] or word == "number":
        return None
    action = MEASURES[kind[0]]
    inside = action(kind, patch, room - 1)
    return None if inside is None else 1 + inside


def is_turn(kind, patch):
    """Whether a "turn" has two unlike values of the kind."""
    if len(patch) != 3 or not is_value(kind, patch[1]) or not is_value(kind, patch[2]):
        return False
    return patch[1] != patch[2]


def measure_record(kind, patch, room):
    """How much is in a patch of a record."""
    if len(patch) != 2 or not is_tuple(patch[1], len(kind[1])):
        return None
    total = 0
    for inner, piece in zip(kind[1], patch[1]):
        many = measure(inner, piece, room - total)
        if many is None:
            return None
        total += many
    return total


def measure_choice(kind, patch, room):
    """How much is in a patch of a choice."""
    if len(patch) != 3 or not is_within(patch[1], 0, len(kind[1]) - 1):
        return None
    return measure(kind[1][patch[1]], patch[2], room)


def measure_row(kind, patch, room):
    """How much is in a patch of a row."""
    if not has_list(patch, room):
        return None
    total = 0
    kept = 0
    for part in patch[1]:
        many = measure_part(kind[1], part, room - total)
        if many is None:
            return None
        total += many
        if part[0] == "keep":
            kept += part[1]
    return total if kept <= MOST_COUNT else None


def measure_part(kind, part, room):
    """How much a part of a row counts, itself and the patch in it; kind is that of the items."""
    if room < 1 or not is_tuple(part, 2):
        return None
    word, what = part
    if word == "keep":
        return 1 if is_within(what, 1, MOST_COUNT) else None
    if word in ("cut", "add"):
        return 1 if is_value(kind, what) else None
    if word == "mend":
        return measure_mend(kind, what, room)
    return None


def measure_mend(kind, patch, room):
    """How much a "mend" counts: itself, and its patch besides."""
    inside = measure(kind, patch, room - 1)
    return None if inside is None else 1 + inside


def measure_set(kind, patch, room):
    """How many changes are in a patch of a set."""
    if not has_list(patch, room):
        return None
    for change in patch[1]:
        if not is_tuple(change, 2) or not is_value(kind[1], change[0]):
            return None
        if change[1] not in ("cut", "add", "in", "out"):
            return None
    return count_changes(patch)


def measure_bag(kind, patch, room):
    """How many changes are in a patch of a bag."""
    if not has_list(patch, room):
        return None
    for change in patch[1]:
        if not is_tuple(change, 3) or not is_value(kind[1], change[0]):
            return None
        if not is_bag_change(change[1], change[2]):
            return None
    return count_changes(patch)


def is_bag_change(least, d):
    """Whether the count of an element may be asked to be at least least, and be changed by d."""
    if not is_within(least, 0, MOST_COUNT) or not is_within(d, -MOST_COUNT, MOST_COUNT):
        return False
    return least >= -d and (least != 0 or d != 0)


def measure_table(kind, patch, room):
    """How much is in a patch of a table."""
    if not has_list(patch, room):
        return None
    total = 0
    for pair in patch[1]:
        if not is_tuple(pair, 2) or not is_value(kind[1], pair[0]):
            return None
        many = measure_change(kind[2], pair[1], room - total)
        if many is None:
            return None
        total += many
    return None if count_changes(patch) is None else total


def measure_change(kind, change, room):
    """How much a change of a table counts, itself and the patch in it; kind is that of the entries."""
    if room < 1:
        return None
    if is_tuple(change, 1):
        return 1 if change[0] == "out" else None
    if not is_tuple(change, 2):
        return None
    word, what = change
    if word in ("cut", "add"):
        return 1 if is_value(kind, what) else None
    if word == "mend":
        return measure_mend(kind, what, room)
    return None


def has_list(patch, room):
    """Whether behind the word of a patch there is one tuple, of no more things than there is room for."""
    return len(patch) == 2 and isinstance(patch[1], tuple) and len(patch[1]) <= room


def count_changes(patch):
    """How many changes a patch of a set, bag or table has; None if their values do not strictly rise."""
    return len(patch[1]) if is_rising([change[0] for change in patch[1]]) else None


MEASURES = {
    "record": measure_record,
    "choice": measure_choice,
    "row": measure_row,
    "set": measure_set,
    "bag": measure_bag,
    "table": measure_table,
}
