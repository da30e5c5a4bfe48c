import random
import unittest

from corrigenda.least import distance, least
from corrigenda.patch import check_patch, cost, made, turned
from tests.makers import (
    BAG, BIT, EITHER, PAIR, ROW, SAME, SET, SMALL_KINDS, TABLE, TEN, THREE, Chance, values_of,
)
from tests.search import far, outcome, patches_of

ROWS = ("row", ROW)
# A kind, two values, and their distance.
DISTANCES = [
    (TEN, 4, 4, 0),
    (TEN, 4, 5, 2),
    (PAIR, (0, 1), (0, 1), 0),
    (PAIR, (0, 1), (0, 2), 2),
    (PAIR, (0, 1), (1, 2), 4),
    (("record", (PAIR, ROW)), ((0, 0), (1, 2)), ((1, 0), (1,)), 3),
    (EITHER, (0, 0), (0, 1), 2),
    (EITHER, (1, (0, 1)), (1, (1,)), 1),
    (EITHER, (0, 0), (1, ()), 4),
    (EITHER, (1, (0, 1)), (0, 1), 6),
    (ROW, (), (), 0),
    (ROW, (), (1, 2, 3), 3),
    (ROW, (1, 2, 3), (), 3),
    (ROW, (1, 2, 3), (1, 3), 1),
    (ROW, (1, 2, 3), (1, 9, 3), 2),
    (ROW, (1, 2, 3, 4), (4, 1, 2, 3), 2),
    (ROW, (1, 2), (2, 1), 2),
    (ROW, (1, 2, 3), (4, 5, 6), 6),
    (ROWS, ((1, 2, 3), (4,)), ((1, 2), (4,)), 1),
    (ROWS, ((1, 2, 3), (4,)), ((4,),), 4),
    (ROWS, ((1, 2, 3),), ((1, 2, 3), (1, 2, 3)), 4),
    (("row", PAIR), ((0, 0), (1, 1)), ((0, 1), (1, 1)), 2),
    (("row", PAIR), ((0, 0), (1, 1)), ((1, 1),), 3),
    (("row", PAIR), ((0, 0), (1, 1)), ((1, 1), (0, 0)), 6),
    (("row", EITHER), ((0, 0), (1, (2,))), ((1, ()), (1, (2,))), 4),
    (SET, (), (), 0),
    (SET, (1, 2), (2, 3), 2),
    (SET, (1, 2), (3, 4), 4),
    (("set", PAIR), ((0, 0), (0, 1)), ((0, 0),), 3),
    (BAG, ((1, 3),), ((1, 5),), 2),
    (BAG, ((1, 3), (2, 1)), ((1, 1), (3, 4)), 7),
    (("bag", PAIR), (((0, 0), 3),), (), 9),
    (TABLE, ((0, 1), (1, 1)), ((0, 1), (1, 0)), 2),
    (TABLE, ((0, 1), (1, 1)), ((1, 1), (2, 0)), 4),
    (("table", PAIR, ROW), (((0, 0), (1, 2)),), (((0, 0), (1, 3, 2)),), 1),
    (("table", PAIR, ROW), (((0, 0), (1, 2)),), (((0, 1), (1, 2)),), 12),
    (("table", BIT, ("table", BIT, ROW)), ((0, ((0, (1,)), (1, ()))),), ((0, ((0, (2,)),)),), 4),
]

# The kinds through all of whose patches of a small size the search goes: with that size, and the weight of values.
SEARCHED = [
    (THREE, 2, 9),
    (("record", (BIT, THREE)), 3, 9),
    (("record", (BIT, ("set", BIT))), 4, 9),
    (("choice", (BIT, ("row", BIT))), 4, 4),
    (("row", BIT), 5, 4),
    (("row", ("row", BIT)), 4, 3),
    (("set", BIT), 3, 9),
    (("set", ("row", BIT)), 3, 5),
    (("bag", BIT), 3, 6),
    (("table", BIT, BIT), 4, 9),
    (("table", BIT, ("row", BIT)), 4, 4),
]


def edited(chance, row, values, many):
    """The row with some stretches cut, put in, moved and changed."""
    row = list(row)
    for _ in range(many):
        at, to = sorted(chance.randrange(len(row) + 1) for _ in range(2))
        to = min(to, at + 8)
        what = chance.choice(["cut", "put", "move", "change"])
        stretch = row[at:to]
        if what in ("cut", "move"):
            del row[at:to]
        if what == "move":
            at = chance.randrange(len(row) + 1)
            row[at:at] = stretch
        if what == "put":
            row[at:at] = [chance.choice(values) for _ in range(chance.randrange(6))]
        if what == "change":
            row[at:to] = [chance.choice(values) for _ in stretch]
    return tuple(row)


class Distances(unittest.TestCase):
    def leads(self, kind, v, w, far_off):
        """Everything that holds for two values of such a distance."""
        self.assertEqual(distance(kind, v, w), far_off)
        patch = least(kind, v, w)
        self.assertIsNone(check_patch(kind, patch))
        self.assertEqual(outcome(kind, patch, v), w)
        self.assertEqual(made(kind, patch, v), w)
        self.assertEqual(cost(kind, patch), far_off)
        self.assertEqual(patch == SAME, v == w)

    def test_by_hand(self):
        for kind, v, w, far_off in DISTANCES:
            with self.subTest(kind=kind, v=v, w=w):
                self.leads(kind, v, w, far_off)
                self.leads(kind, w, v, far_off)
                self.leads(kind, v, v, 0)

    def test_small_values(self):
        chance = random.Random(1)
        for kind in SMALL_KINDS:
            values = [value for value, _ in values_of(kind, 6)]
            for _ in range(60):
                v, w, x = (chance.choice(values) for _ in range(3))
                self.leads(kind, v, w, far(kind, v, w))
                self.assertEqual(distance(kind, v, w) == 0, v == w)
                self.assertEqual(distance(kind, w, v), distance(kind, v, w))
                self.assertLessEqual(distance(kind, v, w), distance(kind, v, x) + distance(kind, x, w))
                self.assertEqual(outcome(kind, turned(kind, least(kind, v, w)), w), v)

    def test_no_patch_costs_less(self):
        for kind, size, limit in SEARCHED:
            values = [value for value, _ in values_of(kind, limit)]
            best = {}
            for patch, _ in patches_of(kind, size, limit):
                price = cost(kind, patch)
                for v in values:
                    w = outcome(kind, patch, v)
                    if w is not None:
                        best[v, w] = min(price, best.get((v, w), price))
            for (v, w), price in best.items():
                self.assertGreaterEqual(price, distance(kind, v, w), (kind, v, w))
                if size_of(least(kind, v, w)) <= size:
                    self.assertEqual(price, distance(kind, v, w), (kind, v, w))

    def test_by_chance_no_patch_costs_less(self):
        chance = Chance(1)
        for kind in SMALL_KINDS:
            values = [value for value, _ in values_of(kind, 5)][:60]
            for _ in range(40):
                patch = chance.patch(kind)
                for v in values:
                    w = outcome(kind, patch, v)
                    if w is not None:
                        self.assertLessEqual(distance(kind, v, w), cost(kind, patch))


def size_of(patch):
    """How many patches, parts and changes are in a patch told by least."""
    if patch[0] in ("same", "turn"):
        return 1
    if patch[0] == "record":
        return 1 + sum(size_of(piece) for piece in patch[1])
    if patch[0] == "choice":
        return 1 + size_of(patch[2])
    if patch[0] in ("set", "bag"):
        return 1 + len(patch[1])
    parts = patch[1] if patch[0] == "row" else [change for _, change in patch[1]]
    return 1 + sum(1 + (size_of(part[1]) if part[0] == "mend" else 0) for part in parts)


class Rows(unittest.TestCase):
    def check(self, kind, v, w):
        far_off = far(kind, v, w)
        self.assertEqual(distance(kind, v, w), far_off)
        patch = least(kind, v, w)
        self.assertEqual(outcome(kind, patch, v), w)
        self.assertEqual(cost(kind, patch), far_off)

    def test_rows_of_numbers(self):
        chance = random.Random(2)
        for many in (5, 30, 60, 90):
            for values in (range(3), range(10)):
                v = tuple(chance.choice(values) for _ in range(many))
                for edits in (1, 3, 9):
                    self.check(ROW, v, edited(chance, v, values, edits))
                self.check(ROW, v, tuple(chance.choice(values) for _ in range(many)))

    def test_rows_of_rows(self):
        chance = random.Random(3)
        for many in (4, 12, 30):
            v = tuple(tuple(chance.randrange(10) for _ in range(chance.randrange(12))) for _ in range(many))
            for edits in (1, 3):
                w = edited(chance, v, v, edits)
                w = tuple(edited(chance, row, range(10), chance.randrange(2)) for row in w)
                self.check(ROWS, v, w)

    def test_nothing_is_taken_out_that_can_stay(self):
        row = tuple(range(9)) * 9
        self.assertEqual(least(ROW, row, row + (5,)), ("row", (("keep", 81), ("add", 5))))
        self.assertEqual(least(ROW, (5,) + row, row), ("row", (("cut", 5), ("keep", 81))))
        self.assertEqual(least(ROW, row, row), SAME)
        inner = ("row", (("add", 7), ("keep", 3)))
        self.assertEqual(least(ROWS, ((), (1, 2, 3), ()), ((), (7, 1, 2, 3), ())),
                         ("row", (("keep", 1), ("mend", inner), ("keep", 1))))


class Forms(unittest.TestCase):
    def test_forms(self):
        cases = [
            (TEN, 1, 2, ("turn", 1, 2)),
            (PAIR, (0, 1), (0, 2), ("record", (SAME, ("turn", 1, 2)))),
            (EITHER, (0, 0), (0, 1), ("choice", 0, ("turn", 0, 1))),
            (EITHER, (0, 0), (1, (2,)), ("turn", (0, 0), (1, (2,)))),
            (SET, (1, 2, 5), (2, 3, 5), ("set", ((1, "cut"), (3, "add")))),
            (BAG, ((1, 3), (2, 2)), ((1, 1), (2, 2), (3, 4)), ("bag", ((1, 2, -2), (3, 0, 4)))),
            (TABLE, ((0, 1), (1, 1), (2, 1)), ((1, 0), (2, 1), (3, 0)),
             ("table", ((0, ("cut", 1)), (1, ("mend", ("turn", 1, 0))), (3, ("add", 0))))),
        ]
        for kind, v, w, patch in cases:
            self.assertEqual(least(kind, v, w), patch)
            self.assertEqual(least(kind, w, v), turned(kind, patch))


if __name__ == "__main__":
    unittest.main()
