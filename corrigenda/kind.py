"""Kinds, their values, and the weights of these ([1.1], [1.2])."""

from corrigenda.errors import BadKind, BadValue

MOST_NUMBER = 1000
MOST_DEEP = 5
MOST_KINDS = 20
MOST_WEIGHT = 400
FEWEST_INSIDE = {"record": 1, "choice": 2}
MOST_INSIDE = 4


def check_kind(kind):
    """Refuse what is no kind."""
    many = count_kinds(kind, MOST_DEEP)
    if many is None or many > MOST_KINDS:
        raise BadKind()


def check_value(kind, value):
    """Refuse what is no value of the kind."""
    check_kind(kind)
    if not is_value(kind, value):
        raise BadValue()


def weight(kind, value):
    """The weight of a value."""
    check_kind(kind)
    heavy = weigh(kind, value, MOST_WEIGHT)
    if heavy is None:
        raise BadValue()
    return heavy


def few(kind, most):
    """How many values the kind has; None if they are more than most."""
    check_kind(kind)
    return count_values(kind, most)


def is_whole(thing):
    """Whether the thing is a whole number. Truth values are no numbers."""
    return isinstance(thing, int) and not isinstance(thing, bool)


def is_within(thing, low, high):
    """Whether the thing is a whole number from low to high."""
    return is_whole(thing) and low <= thing <= high


def is_tuple(thing, many):
    """Whether the thing is a tuple of so many items."""
    return isinstance(thing, tuple) and len(thing) == many


def inner_kinds(kind):
    """What stands right inside where a kind has its kinds; None if the form is not that of a kind."""
    if not isinstance(kind, tuple) or len(kind) < 2:
        return None
    word = kind[0]
    if word == "table":
        return kind[1:] if len(kind) == 3 else None
    if len(kind) > 2:
        return None
    if word == "number":
        return () if is_within(kind[1], 2, MOST_NUMBER) else None
    if word in ("row", "set", "bag"):
        return kind[1:]
    if word not in ("record", "choice") or not isinstance(kind[1], tuple):
        return None
    return kind[1] if FEWEST_INSIDE[word] <= len(kind[1]) <= MOST_INSIDE else None


def count_kinds(kind, deep):
    """How many kinds are in a kind, itself counted; None if it is no kind or nested deeper than deep."""
    inside = inner_kinds(kind)
    # What is handed in may be nested much deeper than a kind, so the search ends at the depth itself.
    if inside is None or deep < 1:
        return None
    total = 1
    for inner in inside:
        many = count_kinds(inner, deep - 1)
        if many is None:
            return None
        total += many
    return total


def is_value(kind, value):
    """Whether it is a value of the kind that may be handed in."""
    return weigh(kind, value, MOST_WEIGHT) is not None


def weigh(kind, value, limit):
    """The weight of what may be a value of the kind; None if it is none, or heavier than the limit."""
    parts = value_parts(kind, value)
    # Every part weighs at least 1. One tuple may stand in very many places, so the search ends at the limit.
    if parts is None or len(parts) >= limit:
        return None
    total = 1
    for inner, item, times in parts:
        each = weigh(inner, item, (limit - total) // times)
        if each is None:
            return None
        total += times * each
    # The order is asked last: only values of one kind can be compared, and only light ones quickly.
    return total if is_ordered(kind, value) else None


def heft(kind, value):
    """The weight of a value of the kind, however heavy it is."""
    return 1 + sum([times * heft(inner, item) for inner, item, times in value_parts(kind, value)])


def value_parts(kind, value):
    """The parts right inside a value, each as (kind, value, times); None if the form is not that of the kind."""
    if kind[0] == "number":
        return [] if is_within(value, 0, kind[1] - 1) else None
    if not isinstance(value, tuple):
        return None
    action = VALUE_PARTS[kind[0]]
    return action(kind, value)


def record_parts(kind, value):
    """The parts of a record."""
    if len(value) != len(kind[1]):
        return None
    return [(inner, item, 1) for inner, item in zip(kind[1], value)]


def choice_parts(kind, value):
    """The one part of a choice."""
    if len(value) != 2 or not is_within(value[0], 0, len(kind[1]) - 1):
        return None
    return [(kind[1][value[0]], value[1], 1)]


def item_parts(kind, value):
    """The parts of a row or a set."""
    return [(kind[1], item, 1) for item in value]


def bag_parts(kind, value):
    """The parts of a bag, each as often as it is counted."""
    for pair in value:
        if not is_tuple(pair, 2) or not is_whole(pair[1]) or pair[1] < 1:
            return None
    return [(kind[1], item, count) for item, count in value]


def table_parts(kind, value):
    """The keys and entries of a table."""
    parts = []
    for pair in value:
        if not is_tuple(pair, 2):
            return None
        parts.append((kind[1], pair[0], 1))
        parts.append((kind[2], pair[1], 1))
    return parts


VALUE_PARTS = {
    "record": record_parts,
    "choice": choice_parts,
    "row": item_parts,
    "set": item_parts,
    "bag": bag_parts,
    "table": table_parts,
}


def is_ordered(kind, value):
    """Whether a set, bag or table has its elements or keys in order; other values need none."""
    if kind[0] == "set":
        return is_rising(value)
    if kind[0] in ("bag", "table"):
        return is_rising([pair[0] for pair in value])
    return True


def is_rising(values):
    """Whether the values of one kind rise strictly."""
    return all([values[at - 1] < values[at] for at in range(1, len(values))])


def light_value(kind):
    """A value of the kind that no other one is lighter than."""
    if kind[0] == "number":
        return 0
    if kind[0] == "record":
        return tuple([light_value(inner) for inner in kind[1]])
    if kind[0] == "choice":
        found = [(k, light_value(inner)) for k, inner in enumerate(kind[1])]
        weights = [heft(kind, value) for value in found]
        return found[weights.index(min(weights))]
    return ()


def count_values(kind, most):
    """How many values the kind has; None if they are more than most."""
    word = kind[0]
    if word in ("row", "bag"):
        return None
    counts = [count_values(inner, most) for inner in inner_kinds(kind)]
    # No kind has fewer values than a kind inside it.
    if None in counts:
        return None
    if word == "number":
        many = kind[1]
    elif word == "choice":
        many = sum(counts)
    elif word == "record":
        many = product_up_to(counts, most)
    elif word == "set":
        many = product_up_to([2] * counts[0], most)
    else:
        many = product_up_to([1 + counts[1]] * counts[0], most)
    return many if many <= most else None


def product_up_to(numbers, most):
    """The product of numbers from 1 on; some number above most if the product is above it."""
    total = 1
    for number in numbers:
        total *= number
        if total > most:
            return total
    return total
