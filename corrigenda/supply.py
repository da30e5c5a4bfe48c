"""Some values of a kind, as many as are asked for, the lighter ones rather first."""


def supply(kind, many):
    """So many values of the kind, no two the same; all of them if there are no more."""
    word = kind[0]
    if word == "number":
        return list(range(min(kind[1], many)))
    if word == "record":
        return mixed([supply(inner, many) for inner in kind[1]], many)
    if word == "choice":
        return [(k, value) for k, inner in enumerate(kind[1]) for value in supply(inner, many)][:many]
    if word == "table":
        items = mixed([supply(inner, many) for inner in kind[1:]], many)
    else:
        items = supply(kind[1], many)
    found = grown(word, items, many)
    return [bag_of(row) for row in found] if word == "bag" else found


def mixed(choices, many):
    """So many tuples with one item of each of the choices; all of them if there are no more."""
    found = [()]
    for choice in choices:
        # No more of the choice than are needed: all of both would be very many.
        enough = choice[:many // len(found) + 1]
        found = [(*row, item) for row in found for item in enough][:many]
    return found


def grown(word, items, many):
    """So many rows of the items, the shorter ones first, in the order that the word of the kind asks for."""
    found = [()]
    layer = [()]
    while layer and len(found) < many:
        layer = longer(word, layer, items, many)
        found.extend(layer)
    return found[:many]


def longer(word, layer, items, many):
    """At most so many rows that are longer by one item than those of the layer."""
    found = []
    for row in layer:
        for item in items:
            if len(found) == many:
                return found
            if may_follow(word, row, item):
                found.append((*row, item))
    return found


def may_follow(word, row, item):
    """Whether the item may stand behind those of the row, by the word of the kind."""
    if word == "row" or not row:
        return True
    if word == "table":
        return row[-1][0] < item[0]
    return row[-1] < item or (word == "bag" and row[-1] == item)


def bag_of(items):
    """The bag of items that stand in order."""
    counts = {}
    for item in items:
        counts[item] = counts.get(item, 0) + 1
    return tuple([(item, count) for item, count in counts.items()])


def fresh(kind, taken):
    """A value of the kind that is no key of taken; None if there is no other."""
    for value in supply(kind, len(taken) + 1):
        if value not in taken:
            return value
    return None
