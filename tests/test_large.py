import random
import time
import unittest

from corrigenda.behind import alike, apart, behind, normal
from corrigenda.kind import weight
from corrigenda.least import bound, distance, least, worth
from corrigenda.patch import cost, turned
from corrigenda.together import quarrel, rest, together
from tests.makers import BIT
from tests.search import far, outcome, together_meant

NAMES = ("number", 1000)
SETS = ("set", NAMES)
BAGS = ("bag", NAMES)
TABLES = ("table", NAMES, BIT)
ROWS = ("row", NAMES)
# For all that one test asks for, on a slow machine.
SECONDS = 15


class Large(unittest.TestCase):
    def setUp(self):
        self.began = time.process_time()
        self.random = random.Random(1)

    def tearDown(self):
        self.assertLess(time.process_time() - self.began, SECONDS)

    def names(self, many):
        return sorted(self.random.sample(range(1000), many))

    def leads(self, kind, v, w):
        far_off = far(kind, v, w)
        self.assertEqual(distance(kind, v, w), far_off)
        patch = least(kind, v, w)
        self.assertEqual(cost(kind, patch), far_off)
        self.assertEqual(outcome(kind, patch, v), w)
        self.assertEqual(worth(kind, v, w, bound(kind, v, w)), far_off)
        return patch

    def all_of(self, kind, value, p, q):
        """Everything that is told of two patches of one value."""
        both = together(kind, value, p, q)
        self.assertEqual(both, together_meant(kind, value, p, q, least))
        self.assertIs(quarrel(kind, value, p, q), both is None)
        if both is not None:
            later = rest(kind, value, p, q)
            self.assertEqual(outcome(kind, later, outcome(kind, p, value)), outcome(kind, both, value))
        for one, two in ((p, q), (p, turned(kind, p)), (p, p)):
            told = behind(kind, one, two)
            middle = outcome(kind, one, value)
            last = outcome(kind, two, middle)
            self.assertEqual(None if told is None else outcome(kind, told, value), last)
        self.assertEqual(normal(kind, normal(kind, p)), normal(kind, p))
        self.assertIs(alike(kind, p, p), True)
        found = apart(kind, p, q)
        self.assertEqual(found is None, alike(kind, p, q))
        if found is not None:
            self.assertNotEqual(outcome(kind, p, found), outcome(kind, q, found))
        return both

    def test_bags(self):
        kind = ("bag", ("number", 30))
        for _ in range(20):
            v, w = (tuple((name, self.random.randrange(1, 91)) for name in sorted(self.random.sample(range(30), 4)))
                    for _ in range(2))
            self.assertLessEqual(weight(kind, v), 400)
            self.leads(kind, v, w)
            counts = dict(v)
            p, q = (("bag", tuple(self.count(name, counts.get(name, 0)) for name in range(start, 30, 2)))
                    for start in range(2))
            self.assertIsNotNone(self.all_of(kind, v, p, q))

    def count(self, name, count):
        least_count = self.random.randrange(count + 1)
        return (name, least_count, self.random.randrange(1 - least_count, 91) or 1)

    def test_sets(self):
        for _ in range(10):
            v, w = tuple(self.names(150)), tuple(self.names(150))
            self.leads(SETS, v, w)
            p, q = ("set", self.set_changes(v)), ("set", self.set_changes(v))
            self.assertIsNotNone(self.all_of(SETS, v, p, q))
            self.assertIsNotNone(self.all_of(SETS, v, ("turn", v, w), p))

    def set_changes(self, v):
        words = [["add", "out"], ["cut", "in"]]
        return tuple((name, self.random.choice(words[name in v])) for name in self.names(40))

    def test_tables(self):
        for _ in range(10):
            v, w = (tuple((name, self.random.randrange(2)) for name in self.names(150)) for _ in range(2))
            self.leads(TABLES, v, w)
            p, q = ("table", self.table_changes(dict(v))), ("table", self.table_changes(dict(v)))
            self.all_of(TABLES, v, p, q)
            self.all_of(TABLES, v, ("turn", v, w), p)
            self.assertIsNotNone(self.all_of(TABLES, v, p, p))

    def table_changes(self, there):
        changes = []
        for name in self.names(40):
            if name not in there:
                changes.append((name, self.random.choice([("out",), ("add", 0), ("add", 1)])))
            else:
                entry = there[name]
                mend = ("mend", ("turn", entry, 1 - entry))
                changes.append((name, self.random.choice([mend, ("mend", ("same",)), ("cut", entry)])))
        return tuple(changes)

    def test_a_weight_of_400(self):
        v = tuple(self.names(399))
        self.assertEqual(weight(SETS, v), 400)
        self.leads(SETS, v, ())
        self.leads(SETS, v, tuple(self.names(399)))
        self.leads(BAGS, ((1, 399),), ((2, 399),))
        self.leads(TABLES, tuple((name, 0) for name in v[:199]), tuple((name, 1) for name in v[200:]))

    def test_rows(self):
        for many in (100, 280):
            v = tuple(self.random.randrange(1000) for _ in range(many))
            p, q = ("row", self.stretches(v)), ("row", self.stretches(v))
            self.all_of(ROWS, v, p, q)
            self.assertIsNotNone(self.all_of(ROWS, v, p, p))
            made = [outcome(ROWS, patch, v) for patch in (p, q)]
            self.assertLessEqual(cost(ROWS, self.leads(ROWS, v, made[0])), cost(ROWS, p))
            self.all_of(ROWS, v, ("turn", v, made[0]), ("turn", v, made[1]))

    def stretches(self, v):
        """Some twenty stretches, each kept, cut, mended or added."""
        parts, at = [], 0
        while at < len(v):
            to = min(len(v), at + self.random.randrange(1, len(v) // 8))
            word = self.random.choice(["keep", "keep", "cut", "add", "mend"])
            if word == "add":
                parts += [("add", self.random.randrange(1000)) for _ in range(self.random.randrange(6))]
            elif word == "keep":
                parts.append(("keep", to - at))
            else:
                parts += [(word, item if word == "cut" else ("turn", item, 999 - item)) for item in v[at:to]]
            at = at if word == "add" else to
        return tuple(parts)

    def test_a_row_of_weight_400(self):
        v, w = (tuple(self.random.randrange(1000) for _ in range(399)) for _ in range(2))
        self.leads(ROWS, v, w)

    def test_rows_of_rows(self):
        kind = ("row", ("row", ("number", 10)))
        v, w = (tuple(tuple(self.random.randrange(10) for _ in range(12)) for _ in range(30)) for _ in range(2))
        patch = self.leads(kind, v, w)
        self.all_of(kind, v, patch, ("turn", v, w))

    def test_deep_rows(self):
        kind = ("row", ("row", ("row", ("row", ("number", 10)))))
        v, w = (((tuple(tuple(self.random.randrange(10) for _ in range(9)) for _ in range(30)),),) for _ in range(2))
        self.leads(kind, v, w)

    def test_rows_of_many_things(self):
        for inner in (("set", NAMES), ("record", (NAMES,)), ("bag", NAMES), ("choice", (NAMES, NAMES))):
            kind = ("row", inner)
            wrap = {"set": lambda n: (n,), "record": lambda n: (n,), "bag": lambda n: ((n, 1),),
                    "choice": lambda n: (n % 2, n)}[inner[0]]
            v, w = (tuple(wrap(self.random.randrange(1000)) for _ in range(120)) for _ in range(2))
            self.leads(kind, v, w)


if __name__ == "__main__":
    unittest.main()
