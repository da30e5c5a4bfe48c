"""How far two values of a kind are from each other ([3.1])."""

from corrigenda.kind import heft


def gap(kind, v, w):
    """The distance of two values of the kind."""
    if v == w:
        return 0
    word = kind[0]
    if word == "number":
        return 2
    if word == "record":
        return sum([gap(inner, a, b) for inner, a, b in zip(kind[1], v, w)])
    if word == "choice":
        return gap(kind[1][v[0]], v[1], w[1]) if v[0] == w[0] else heft(kind, v) + heft(kind, w)
    if word == "row":
        return climb(kind[1], v, w)[-1][-1]
    if word == "table":
        inside = sum([gap(kind[2], a, b) for _, a, b in shared(v, w)])
        return inside + sum([lone_heft(kind, pair) for pair in lone(v, w) + lone(w, v)])
    return sum([heft(kind[1], item) * abs(d) for item, d in shifts(kind, v, w)])


def climb(kind, v, w):
    """The heights of two rows: heights[x][y] is the distance of the first x items of v and the first y of w."""
    lefts = [heft(kind, item) for item in w]
    first = [0]
    for heavy in lefts:
        first.append(first[-1] + heavy)
    heights = [first]
    for item in v:
        heights.append(next_heights(kind, item, w, lefts, heights[-1]))
    return heights


def next_heights(kind, item, w, lefts, above):
    """The heights with one item more of the first row; lefts are the weights of the items of w."""
    down = heft(kind, item)
    heights = [above[0] + down]
    for y, left in enumerate(lefts):
        least = min(above[y + 1] + down, heights[y] + left)
        # The way across costs no less than above[y], so it is looked at only where it may be the cheapest.
        if above[y] < least:
            least = min(least, above[y] + gap(kind, item, w[y]))
        heights.append(least)
    return heights


def counted(kind, value):
    """How often each element is in a set or a bag."""
    if kind[0] == "set":
        return {item: 1 for item in value}
    return {item: count for item, count in value}


def shifts(kind, v, w):
    """By how much each element of two sets or bags is oftener in w: pairs (element, d) in order, no d 0."""
    before = counted(kind, v)
    after = counted(kind, w)
    found = []
    for item in sorted({**before, **after}):
        d = after.get(item, 0) - before.get(item, 0)
        if d != 0:
            found.append((item, d))
    return found


def shared(v, w):
    """The keys that are in both tables, in order, each with its two entries."""
    there = {key: entry for key, entry in w}
    return [(key, entry, there[key]) for key, entry in v if key in there]


def lone(v, w):
    """The keys and entries of those keys of a table that the other one lacks."""
    there = {key: True for key, _ in w}
    return [pair for pair in v if pair[0] not in there]


def lone_heft(kind, pair):
    """The weight of a key and its entry."""
    return heft(kind[1], pair[0]) + heft(kind[2], pair[1])
