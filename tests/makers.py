"""What several tests share: kinds, all light values of a kind, patches by chance, and a second meaning of patches."""

import random
from collections import Counter

BIT = ("number", 2)
THREE = ("number", 3)
TEN = ("number", 10)
PAIR = ("record", (BIT, THREE))
EITHER = ("choice", (BIT, ("row", THREE)))
ROW = ("row", TEN)
SET = ("set", TEN)
BAG = ("bag", TEN)
TABLE = ("table", TEN, BIT)

SAME = ("same",)

SMALL_KINDS = [
    BIT,
    THREE,
    ("record", (BIT,)),
    ("record", (BIT, THREE)),
    ("choice", (BIT, THREE)),
    ("choice", (("row", BIT), BIT)),
    ("row", BIT),
    ("row", ("record", (BIT, BIT))),
    ("row", ("row", BIT)),
    ("set", THREE),
    ("set", ("choice", (BIT, BIT))),
    ("set", ("row", BIT)),
    ("bag", BIT),
    ("bag", ("set", BIT)),
    ("table", BIT, THREE),
    ("table", THREE, ("row", BIT)),
    ("table", ("choice", (BIT, BIT)), ("bag", BIT)),
    ("record", (("set", BIT), ("row", BIT), ("bag", BIT))),
    ("table", BIT, ("table", BIT, BIT)),
    ("row", ("choice", (("table", BIT, BIT), ("set", BIT)))),
]

ANYTHING = [
    "", "same", "number", "row", 0, 1, 2, -1, 10 ** 40, True, False, None, (), ((),), (0,), (None,), ("same",),
    ("number",), ("row",), (0, 0), ((0, 0),), (True, False), ("number", 2), ((("number", 2),),),
]


def doubled(thing, deep=60):
    """A tuple that has the thing in 2 ** deep places."""
    for _ in range(deep):
        thing = (thing, thing)
    return thing


def deep_row(deep, inner=BIT):
    """A kind of rows of rows, that many deep above the inner one."""
    for _ in range(deep):
        inner = ("row", inner)
    return inner


def values_of(kind, limit):
    """All values of the kind that weigh at most limit, each with its weight."""
    if limit < 1:
        return []
    word = kind[0]
    if word == "number":
        return [(value, 1) for value in range(kind[1])]
    if word == "record":
        return [(items, 1 + heavy) for items, heavy in strings([values_of(k, limit - 1) for k in kind[1]], limit - 1)]
    if word == "choice":
        return [((k, v), 1 + heavy) for k, inner in enumerate(kind[1]) for v, heavy in values_of(inner, limit - 1)]
    if word == "row":
        return [(items, 1 + heavy) for items, heavy in rows(values_of(kind[1], limit - 1), limit - 1)]
    if word == "set":
        steps = [[(value, heavy)] for value, heavy in values_of(kind[1], limit - 1)]
    elif word == "bag":
        steps = [[((value, n), n * heavy) for n in range(1, limit // heavy + 1)]
                 for value, heavy in values_of(kind[1], limit - 1)]
    else:
        entries = values_of(kind[2], limit - 1)
        steps = [[((key, entry), heavy + more) for entry, more in entries]
                 for key, heavy in values_of(kind[1], limit - 1)]
    found = [((), 1)]
    for step in sorted(steps):
        found += [(items + (item,), heavy + more)
                  for items, heavy in found for item, more in step if heavy + more <= limit]
    return found


def strings(choices, limit):
    """All tuples with one item of each of the choices, up to a weight."""
    found = [((), 0)]
    for choice in choices:
        found = [(items + (item,), heavy + more)
                 for items, heavy in found for item, more in choice if heavy + more <= limit]
    return found


def rows(items, limit):
    """All tuples of the items, up to a weight."""
    found = [((), 0)]
    last = found
    while last:
        last = [(row + (item,), heavy + more) for row, heavy in last for item, more in items if heavy + more <= limit]
        found = found + last
    return found


def belongs(kind, value):
    """Whether a light value of some kind is one of this kind, too."""
    word = kind[0]
    if word == "number":
        return isinstance(value, int) and value < kind[1]
    if isinstance(value, int):
        return False
    if word == "record":
        return len(value) == len(kind[1]) and all(belongs(k, v) for k, v in zip(kind[1], value))
    if word == "choice":
        return len(value) == 2 and value[0] in range(len(kind[1])) and belongs(kind[1][value[0]], value[1])
    if word in ("row", "set"):
        return all(belongs(kind[1], v) for v in value) and (word == "row" or list(value) == sorted(set(value)))
    if not all(isinstance(pair, tuple) and len(pair) == 2 and belongs(kind[1], pair[0]) for pair in value):
        return False
    if [pair[0] for pair in value] != sorted({pair[0] for pair in value}):
        return False
    return all(isinstance(n, int) and n > 0 if word == "bag" else belongs(kind[2], n) for _, n in value)


class Chance:
    """Makes patches by chance, the same ones in each run."""

    def __init__(self, seed, limit=5):
        self.random = random.Random(seed)
        self.limit = limit
        self.pools = {}

    def value(self, kind):
        if kind not in self.pools:
            self.pools[kind] = [value for value, _ in values_of(kind, self.limit)]
        return self.random.choice(self.pools[kind])

    def some(self, kind):
        """Some values of the kind that strictly rise."""
        return sorted({self.value(kind) for _ in range(self.random.randrange(4))})

    def patch(self, kind):
        word = self.random.choice(["same", "only", "turn"] + [kind[0]] * 5)
        if word in ("same", "number"):
            return ("same",)
        if word == "only":
            return ("only", self.value(kind))
        if word == "turn":
            v, w = self.value(kind), self.value(kind)
            return ("turn", v, w) if v != w else ("same",)
        if word == "record":
            return ("record", tuple(self.patch(inner) for inner in kind[1]))
        if word == "choice":
            k = self.random.randrange(len(kind[1]))
            return ("choice", k, self.patch(kind[1][k]))
        if word == "row":
            return ("row", tuple(self.part(kind[1]) for _ in range(self.random.randrange(5))))
        if word == "set":
            words = ["cut", "add", "in", "out"]
            return ("set", tuple((v, self.random.choice(words)) for v in self.some(kind[1])))
        if word == "bag":
            return ("bag", tuple(self.count(v) for v in self.some(kind[1])))
        return ("table", tuple((key, self.change(kind[2])) for key in self.some(kind[1])))

    def part(self, kind):
        word = self.random.choice(["keep", "cut", "add", "mend"])
        if word == "keep":
            return ("keep", self.random.randrange(1, 3))
        return (word, self.patch(kind) if word == "mend" else self.value(kind))

    def count(self, v):
        least = self.random.randrange(3)
        d = self.random.randrange(-least, 3)
        return (v, least, d) if least or d else (v, 1, 0)

    def change(self, kind):
        word = self.random.choice(["cut", "add", "mend", "out"])
        if word == "out":
            return ("out",)
        return (word, self.patch(kind) if word == "mend" else self.value(kind))


class Fitting(Chance):
    """Makes patches by chance that fit a value, and writes patches otherwise."""

    def fit(self, kind, value):
        """A patch that fits the value."""
        word = self.random.choice(["same", "only", "turn"] + [kind[0]] * 7)
        if word == "only":
            return ("only", value)
        if word in ("turn", "number"):
            other = self.value(kind)
            return ("turn", value, other) if value != other else ("same",)
        if word == "same":
            return ("same",)
        if word == "record":
            return ("record", tuple(self.fit(inner, item) for inner, item in zip(kind[1], value)))
        if word == "choice":
            return ("choice", value[0], self.fit(kind[1][value[0]], value[1]))
        if word == "row":
            return ("row", self.fit_row(kind[1], value))
        if word == "table":
            return ("table", self.fit_table(kind, dict(value)))
        there = {each: 1 for each in value} if word == "set" else dict(value)
        some = sorted(set(self.some(kind[1])) | {each for each in there if self.random.randrange(2)})
        if word == "set":
            words = [["add", "out"], ["cut", "in"]]
            return ("set", tuple((v, self.random.choice(words[v in there])) for v in some))
        counts = [(v, self.random.randrange(there.get(v, 0) + 1)) for v in some]
        changes = [(v, least, self.random.randrange(-least, 3)) for v, least in counts]
        return ("bag", tuple(change for change in changes if change[1:] != (0, 0)))

    def fit_row(self, kind, value):
        parts = []
        for item in value + (None,):
            while self.random.randrange(5) == 0:
                parts.append(("add", self.value(kind)))
            if item is not None:
                word = self.random.choice(["keep", "keep", "cut", "mend"])
                what = {"keep": 1, "cut": item}.get(word)
                parts.append((word, self.fit(kind, item) if word == "mend" else what))
        return tuple(parts)

    def fit_table(self, kind, there):
        changes = []
        for key in sorted(set(self.some(kind[1])) | {key for key in there if self.random.randrange(2)}):
            if key not in there:
                changes.append((key, self.random.choice([("out",), ("add", self.value(kind[2]))])))
            else:
                mend = ("mend", self.fit(kind[2], there[key]))
                changes.append((key, self.random.choice([mend, mend, ("cut", there[key])])))
        return tuple(changes)

    def otherwise(self, kind, patch):
        """A patch that is alike."""
        word = patch[0]
        if word == "same":
            return self.same_otherwise(kind)
        if word in ("only", "turn"):
            return self.turn_otherwise(kind, patch[1], patch[-1])
        if word == "record":
            return ("record", tuple(self.otherwise(inner, piece) for inner, piece in zip(kind[1], patch[1])))
        if word == "choice":
            return ("choice", patch[1], self.otherwise(kind[1][patch[1]], patch[2]))
        if word == "row":
            return ("row", self.row_otherwise(kind[1], patch[1]))
        if word == "table":
            return ("table", tuple((key, self.change_otherwise(kind[2], change)) for key, change in patch[1]))
        return patch

    def change_otherwise(self, kind, change):
        return ("mend", self.otherwise(kind, change[1])) if change[0] == "mend" else change

    def same_otherwise(self, kind):
        if kind[0] == "record" and self.random.randrange(2):
            return ("record", tuple(self.same_otherwise(inner) for inner in kind[1]))
        if kind[0] in ("set", "bag", "table") and self.random.randrange(2):
            return (kind[0], ())
        return ("same",)

    def turn_otherwise(self, kind, v, w):
        if kind[0] == "record" and self.random.randrange(2):
            return ("record", tuple(self.turn_otherwise(inner, a, b) for inner, a, b in zip(kind[1], v, w)))
        if kind[0] == "choice" and v[0] == w[0] and self.random.randrange(2):
            return ("choice", v[0], self.turn_otherwise(kind[1][v[0]], v[1], w[1]))
        if kind[0] == "row" and self.random.randrange(2):
            cuts, adds = [("cut", item) for item in v], [("add", item) for item in w]
            return ("row", tuple(self.shuffled(cuts, adds)))
        return ("only", v) if v == w else ("turn", v, w)

    def shuffled(self, cuts, adds):
        """Both in their order, mixed with each other."""
        found, cuts, adds = [], list(cuts), list(adds)
        while cuts or adds:
            found.append((cuts if not adds or cuts and self.random.randrange(2) else adds).pop(0))
        return found

    def row_otherwise(self, kind, parts):
        found, cuts, adds = [], [], []
        for word, what in list(parts) + [("end", None)]:
            if word == "cut":
                cuts.append((word, what))
            elif word == "add":
                adds.append((word, what))
            else:
                found += self.together(kind, cuts, adds)
                cuts, adds = [], []
                if word == "keep":
                    found += [self.random.choice([("keep", 1), ("mend", self.same_otherwise(kind))])
                              for _ in range(what)]
                elif word == "mend":
                    found.append((word, self.otherwise(kind, what)))
        return tuple(found)

    def together(self, kind, cuts, adds):
        """Cuts and adds that stand side by side, or as a "mend" of one value alone if there is one of each."""
        if len(cuts) == len(adds) == 1 and self.random.randrange(2):
            return [("mend", self.turn_otherwise(kind, cuts[0][1], adds[0][1]))]
        return self.shuffled(cuts, adds)


class Wide(Fitting):
    """The same for kinds that have very many light values."""

    def value(self, kind):
        word = kind[0]
        many = self.random.randrange(4)
        if word == "number":
            return self.random.randrange(kind[1])
        if word == "record":
            return tuple(self.value(inner) for inner in kind[1])
        if word == "choice":
            k = self.random.randrange(len(kind[1]))
            return (k, self.value(kind[1][k]))
        if word == "row":
            return tuple(self.value(kind[1]) for _ in range(many))
        some = sorted({self.value(kind[1]) for _ in range(many)})
        if word == "set":
            return tuple(some)
        return tuple((v, self.random.randrange(1, 9) if word == "bag" else self.value(kind[2])) for v in some)


class NoFit(Exception):
    """A patch does not fit, by the second meaning."""


def need(holds):
    if not holds:
        raise NoFit


def meant(kind, patch, value):
    """What [2.1] says that the patch makes of the value, or NoFit: written a second time, apart from the program."""
    word = patch[0]
    if word == "same":
        return value
    if word in ("only", "turn"):
        need(value == patch[1])
        return patch[-1]
    if word == "record":
        return tuple(meant(kind[1][at], patch[1][at], value[at]) for at in range(len(value)))
    if word == "choice":
        need(value[0] == patch[1])
        return (value[0], meant(kind[1][value[0]], patch[2], value[1]))
    if word == "row":
        return meant_row(kind[1], list(patch[1]), list(value))
    if word == "set":
        for what, there in (("cut", True), ("in", True), ("add", False), ("out", False)):
            need(all((v in value) == there for v, each in patch[1] if each == what))
        cut = {v for v, what in patch[1] if what == "cut"}
        return tuple(sorted((set(value) - cut) | {v for v, what in patch[1] if what == "add"}))
    if word == "bag":
        counts = Counter(dict(value))
        need(all(counts[v] >= least for v, least, d in patch[1]))
        changes = {v: d for v, least, d in patch[1]}
        every = sorted(set(counts) | set(changes))
        return tuple((v, counts[v] + changes.get(v, 0)) for v in every if counts[v] + changes.get(v, 0))
    return meant_table(kind[2], dict(patch[1]), dict(value))


def meant_row(kind, parts, items):
    if not parts:
        need(not items)
        return ()
    (word, what), later = parts[0], parts[1:]
    if word == "add":
        return (what,) + meant_row(kind, later, items)
    need(items)
    first, others = items[0], items[1:]
    if word == "keep":
        again = [("keep", what - 1)] if what > 1 else []
        return (first,) + meant_row(kind, again + later, others)
    if word == "mend":
        return (meant(kind, what, first),) + meant_row(kind, later, others)
    need(first == what)
    return meant_row(kind, later, others)


def meant_table(kind, changes, table):
    pairs = []
    for key in sorted(set(changes) | set(table)):
        change = changes.get(key, ("mend", ("same",)) if key in table else ("out",))
        if change[0] in ("add", "out"):
            need(key not in table)
            pairs += [(key, change[1])] if change[0] == "add" else []
            continue
        need(key in table)
        if change[0] == "cut":
            need(table[key] == change[1])
        else:
            pairs.append((key, meant(kind, change[1], table[key])))
    return tuple(pairs)
