import unittest
from itertools import product

from corrigenda.behind import alike, behind
from corrigenda.patch import check_patch, sample, turned
from tests.makers import (
    BAG, BIT, EITHER, PAIR, ROW, SAME, SET, SMALL_KINDS, TABLE, TEN, THREE, Chance, Fitting, values_of,
)
from tests.search import outcome, patches_of

TURN = ("turn", 0, 1)
BACK = ("turn", 1, 0)
PAIRS = ("row", PAIR)
MEND = ("record", (TURN, SAME))
TABLES = ("table", TEN, PAIR)

# A kind, p, q, and a patch that is alike to p and then q; None if no value is left.
CASES = [
    (TEN, SAME, SAME, SAME),
    (TEN, SAME, ("only", 3), ("only", 3)),
    (TEN, ("turn", 3, 4), SAME, ("turn", 3, 4)),
    (TEN, ("turn", 3, 4), ("turn", 4, 5), ("turn", 3, 5)),
    (TEN, ("turn", 3, 4), ("turn", 4, 3), ("only", 3)),
    (TEN, ("turn", 3, 4), ("only", 4), ("turn", 3, 4)),
    (TEN, ("only", 3), ("turn", 3, 4), ("turn", 3, 4)),
    (TEN, ("only", 3), ("only", 3), ("only", 3)),
    (TEN, ("only", 3), ("only", 4), None),
    (TEN, ("turn", 3, 4), ("only", 3), None),
    (TEN, ("turn", 3, 4), ("turn", 3, 4), None),
    (PAIR, ("record", (TURN, SAME)), ("record", (BACK, ("turn", 0, 2))), ("record", (("only", 0), ("turn", 0, 2)))),
    (PAIR, ("record", (TURN, SAME)), ("record", (TURN, SAME)), None),
    (PAIR, ("record", (SAME, TURN)), ("record", (TURN, ("only", 0))), None),
    (PAIR, ("record", (TURN, SAME)), ("turn", (1, 2), (0, 0)), ("turn", (0, 2), (0, 0))),
    (PAIR, ("record", (TURN, SAME)), ("turn", (0, 2), (0, 0)), None),
    (PAIR, ("record", (TURN, SAME)), ("only", (1, 2)), ("turn", (0, 2), (1, 2))),
    (PAIR, ("turn", (0, 0), (1, 1)), ("record", (SAME, ("turn", 1, 2))), ("turn", (0, 0), (1, 2))),
    (PAIR, ("turn", (0, 0), (1, 1)), ("record", (SAME, ("only", 2))), None),
    (PAIR, ("only", (0, 0)), ("record", (SAME, SAME)), ("only", (0, 0))),
    (EITHER, ("choice", 0, TURN), ("choice", 0, BACK), ("only", (0, 0))),
    (EITHER, ("choice", 0, SAME), ("choice", 1, SAME), None),
    (EITHER, ("choice", 0, TURN), ("choice", 0, TURN), None),
    (EITHER, ("choice", 0, SAME), ("turn", (0, 1), (1, ())), ("turn", (0, 1), (1, ()))),
    (EITHER, ("turn", (1, (1,)), (0, 1)), ("choice", 0, BACK), ("turn", (1, (1,)), (0, 0))),
    (ROW, ("row", (("keep", 2), ("add", 5))), ("row", (("cut", 1), ("keep", 2))),
     ("row", (("cut", 1), ("keep", 1), ("add", 5)))),
    (ROW, ("row", (("add", 5), ("keep", 1))), ("row", (("cut", 5), ("keep", 1))), ("row", (("keep", 1),))),
    (ROW, ("row", (("add", 5), ("keep", 1))), ("row", (("cut", 6), ("keep", 1))), None),
    (ROW, ("row", (("add", 5), ("keep", 1))), ("row", (("mend", ("turn", 5, 6)), ("keep", 1))),
     ("row", (("add", 6), ("keep", 1)))),
    (ROW, ("row", (("add", 5), ("keep", 1))), ("row", (("mend", ("turn", 6, 5)), ("keep", 1))), None),
    (ROW, ("row", (("cut", 5), ("keep", 1))), ("row", (("add", 5), ("keep", 1))),
     ("row", (("cut", 5), ("add", 5), ("keep", 1)))),
    (ROW, ("row", (("keep", 3),)), ("row", (("keep", 2),)), None),
    (ROW, ("row", (("keep", 2),)), ("row", (("keep", 3),)), None),
    (ROW, ("row", (("keep", 2), ("cut", 1))), ("row", (("keep", 3),)), None),
    (ROW, ("row", ()), ("row", ()), ("only", ())),
    (ROW, ("row", ()), ("row", (("add", 1),)), ("turn", (), (1,))),
    (ROW, ("row", (("cut", 1),)), ("row", (("add", 1),)), ("only", (1,))),
    (ROW, ("row", (("keep", 9),)), ("row", (("add", 1), ("keep", 4), ("add", 2), ("keep", 5), ("add", 3))),
     ("row", (("add", 1), ("keep", 4), ("add", 2), ("keep", 5), ("add", 3)))),
    (ROW, ("row", (("keep", 1), ("add", 1), ("add", 2))), ("row", (("keep", 1), ("cut", 1), ("add", 3), ("keep", 1))),
     ("row", (("keep", 1), ("add", 3), ("add", 2)))),
    (ROW, ("row", (("keep", 1), ("add", 1))), ("only", (3, 1)), ("turn", (3,), (3, 1))),
    (ROW, ("turn", (3,), (3, 1)), ("row", (("keep", 1), ("cut", 1))), ("only", (3,))),
    (PAIRS, ("row", (("mend", MEND),)), ("row", (("keep", 1),)), ("row", (("mend", MEND),))),
    (PAIRS, ("row", (("keep", 1),)), ("row", (("mend", MEND),)), ("row", (("mend", MEND),))),
    (PAIRS, ("row", (("mend", MEND),)), ("row", (("cut", (1, 2)),)), ("row", (("cut", (0, 2)),))),
    (PAIRS, ("row", (("mend", MEND),)), ("row", (("cut", (0, 2)),)), None),
    (PAIRS, ("row", (("mend", MEND),)), ("row", (("mend", ("record", (SAME, TURN))),)),
     ("row", (("cut", (0, 0)), ("add", (1, 1))))),
    (PAIRS, ("row", (("mend", MEND),)), ("row", (("mend", MEND),)), None),
    (PAIRS, ("row", (("add", (0, 2)),)), ("row", (("mend", MEND),)), ("turn", (), ((1, 2),))),
    (SET, ("set", ((1, "cut"),)), ("set", ((1, "add"),)), ("set", ((1, "in"),))),
    (SET, ("set", ((1, "cut"),)), ("set", ((1, "out"),)), ("set", ((1, "cut"),))),
    (SET, ("set", ((1, "cut"),)), ("set", ((1, "cut"),)), None),
    (SET, ("set", ((1, "cut"),)), ("set", ((1, "in"),)), None),
    (SET, ("set", ((1, "add"),)), ("set", ((1, "cut"),)), ("set", ((1, "out"),))),
    (SET, ("set", ((1, "add"),)), ("set", ((1, "in"),)), ("set", ((1, "add"),))),
    (SET, ("set", ((1, "add"),)), ("set", ((1, "add"),)), None),
    (SET, ("set", ((1, "add"),)), ("set", ((1, "out"),)), None),
    (SET, ("set", ((1, "in"),)), ("set", ((1, "cut"),)), ("set", ((1, "cut"),))),
    (SET, ("set", ((1, "in"),)), ("set", ((1, "in"),)), ("set", ((1, "in"),))),
    (SET, ("set", ((1, "in"),)), ("set", ((1, "out"),)), None),
    (SET, ("set", ((1, "in"),)), ("set", ((1, "add"),)), None),
    (SET, ("set", ((1, "out"),)), ("set", ((1, "add"),)), ("set", ((1, "add"),))),
    (SET, ("set", ((1, "out"),)), ("set", ((1, "out"),)), ("set", ((1, "out"),))),
    (SET, ("set", ((1, "out"),)), ("set", ((1, "in"),)), None),
    (SET, ("set", ((1, "out"),)), ("set", ((1, "cut"),)), None),
    (SET, ("set", ((1, "cut"), (3, "in"))), ("set", ((0, "add"), (3, "cut"), (5, "out"))),
     ("set", ((0, "add"), (1, "cut"), (3, "cut"), (5, "out")))),
    (SET, ("set", ()), ("set", ()), SAME),
    (SET, ("set", ((1, "cut"),)), ("only", (2,)), ("turn", (1, 2), (2,))),
    (SET, ("set", ((1, "cut"),)), ("only", (1,)), None),
    (BAG, ("bag", ((1, 2, -2),)), ("bag", ((1, 0, 2),)), ("bag", ((1, 2, 0),))),
    (BAG, ("bag", ((1, 0, 2),)), ("bag", ((1, 2, -2),)), SAME),
    (BAG, ("bag", ((1, 0, 2),)), ("bag", ((1, 3, -2),)), ("bag", ((1, 1, 0),))),
    (BAG, ("bag", ((1, 5, -1),)), ("bag", ((1, 2, 0), (2, 0, 3))), ("bag", ((1, 5, -1), (2, 0, 3)))),
    (BAG, ("bag", ((1, 5, -1),)), ("bag", ((1, 7, -3),)), ("bag", ((1, 8, -4),))),
    (BAG, ("bag", ((1, 0, 2),)), ("only", ()), None),
    (BAG, ("bag", ((1, 0, 2),)), ("only", ((1, 2),)), ("turn", (), ((1, 2),))),
    (TABLE, ("table", ((1, ("cut", 0)),)), ("table", ((1, ("add", 1)),)), ("table", ((1, ("mend", TURN)),))),
    (TABLE, ("table", ((1, ("cut", 0)),)), ("table", ((1, ("add", 0)),)), ("table", ((1, ("mend", ("only", 0))),))),
    (TABLE, ("table", ((1, ("cut", 0)),)), ("table", ((1, ("out",)),)), ("table", ((1, ("cut", 0)),))),
    (TABLE, ("table", ((1, ("cut", 0)),)), ("table", ((1, ("cut", 0)),)), None),
    (TABLE, ("table", ((1, ("cut", 0)),)), ("table", ((1, ("mend", SAME)),)), None),
    (TABLE, ("table", ((1, ("add", 0)),)), ("table", ((1, ("cut", 0)),)), ("table", ((1, ("out",)),))),
    (TABLE, ("table", ((1, ("add", 0)),)), ("table", ((1, ("cut", 1)),)), None),
    (TABLE, ("table", ((1, ("add", 0)),)), ("table", ((1, ("mend", TURN)),)), ("table", ((1, ("add", 1)),))),
    (TABLE, ("table", ((1, ("add", 0)),)), ("table", ((1, ("mend", BACK)),)), None),
    (TABLE, ("table", ((1, ("add", 0)),)), ("table", ((1, ("add", 0)),)), None),
    (TABLE, ("table", ((1, ("add", 0)),)), ("table", ((1, ("out",)),)), None),
    (TABLE, ("table", ((1, ("mend", SAME)),)), ("table", ((1, ("cut", 0)),)), ("table", ((1, ("cut", 0)),))),
    (TABLE, ("table", ((1, ("mend", TURN)),)), ("table", ((1, ("cut", 1)),)), ("table", ((1, ("cut", 0)),))),
    (TABLE, ("table", ((1, ("mend", TURN)),)), ("table", ((1, ("cut", 0)),)), None),
    (TABLE, ("table", ((1, ("mend", TURN)),)), ("table", ((1, ("mend", BACK)),)),
     ("table", ((1, ("mend", ("only", 0))),))),
    (TABLE, ("table", ((1, ("mend", TURN)),)), ("table", ((1, ("mend", TURN)),)), None),
    (TABLE, ("table", ((1, ("mend", SAME)),)), ("table", ((1, ("out",)),)), None),
    (TABLE, ("table", ((1, ("mend", SAME)),)), ("table", ((1, ("add", 0)),)), None),
    (TABLE, ("table", ((1, ("out",)),)), ("table", ((1, ("add", 0)),)), ("table", ((1, ("add", 0)),))),
    (TABLE, ("table", ((1, ("out",)),)), ("table", ((1, ("out",)),)), ("table", ((1, ("out",)),))),
    (TABLE, ("table", ((1, ("out",)),)), ("table", ((1, ("mend", SAME)),)), None),
    (TABLE, ("table", ((1, ("out",)),)), ("table", ((1, ("cut", 0)),)), None),
    (TABLE, ("table", ((1, ("out",)),)), ("table", ((0, ("cut", 0)),)), ("table", ((0, ("cut", 0)), (1, ("out",))))),
    (TABLES, ("table", ((1, ("mend", MEND)),)), ("table", ((1, ("cut", (1, 2))),)), ("table", ((1, ("cut", (0, 2))),))),
    (TABLES, ("table", ((1, ("cut", (0, 0))),)), ("table", ((1, ("add", (0, 1))),)),
     ("table", ((1, ("mend", ("turn", (0, 0), (0, 1)))),))),
]

# The kinds all of whose small patches are put behind one another: with their size, and the weight of values.
SEARCHED = [
    (THREE, 1, 1),
    (("record", (BIT, BIT)), 3, 3),
    (("choice", (BIT, BIT)), 2, 2),
    (("row", BIT), 3, 2),
    (("set", BIT), 3, 3),
    (("bag", BIT), 2, 3),
    (("table", BIT, BIT), 3, 2),
]


class Behind(unittest.TestCase):
    def just(self, kind, p, q, values):
        """What [4.2] says holds of p and then q, on these values; whether a value is left."""
        told = behind(kind, p, q)
        left = False
        for value in values:
            middle = outcome(kind, p, value)
            last = None if middle is None else outcome(kind, q, middle)
            left = left or last is not None
            self.assertEqual(None if told is None else outcome(kind, told, value), last, (kind, p, q, value))
        return told, left

    def test_by_hand(self):
        for kind, p, q, patch in CASES:
            with self.subTest(kind=kind, p=p, q=q):
                told = behind(kind, p, q)
                if patch is None:
                    self.assertIsNone(told)
                else:
                    self.assertIsNone(check_patch(kind, told))
                    self.assertIs(alike(kind, told, patch), True)
                values = [sample(kind, each) for each in (p, q, turned(kind, p)) + ((patch,) if patch else ())]
                self.just(kind, p, q, values)

    def test_all_small_patches(self):
        for kind, size, limit in SEARCHED:
            patches = [patch for patch, _ in patches_of(kind, size, limit)]
            values = [value for value, _ in values_of(kind, 5)]
            for at, (p, q) in enumerate(product(patches, patches)):
                if at % (1 + len(patches) ** 2 // 2500) == 0:
                    told, left = self.just(kind, p, q, values)
                    self.assertEqual(told is not None, left, (kind, p, q))

    def test_by_chance(self):
        chance = Chance(1)
        for kind in SMALL_KINDS:
            values = [value for value, _ in values_of(kind, 6)][:120]
            for _ in range(25):
                p, q = chance.patch(kind), chance.patch(kind)
                told, _ = self.just(kind, p, q, values)
                if told is not None:
                    self.assertIsNone(check_patch(kind, told))
                    _, left = self.just(kind, p, q, [sample(kind, told)])
                    self.assertIs(left, True)

    def test_same_ahead_and_behind(self):
        chance = Chance(2)
        for kind in SMALL_KINDS:
            for _ in range(20):
                p = chance.patch(kind)
                self.assertIs(alike(kind, behind(kind, SAME, p), p), True)
                self.assertIs(alike(kind, behind(kind, p, SAME), p), True)

    def test_a_patch_and_then_the_turned_one(self):
        chance = Chance(3)
        for kind in SMALL_KINDS:
            values = [value for value, _ in values_of(kind, 6)][:120]
            for _ in range(20):
                p = chance.patch(kind)
                stays = behind(kind, p, turned(kind, p))
                for value in values:
                    fitting = outcome(kind, p, value) is not None
                    self.assertEqual(outcome(kind, stays, value), value if fitting else None)
                self.assertIs(alike(kind, behind(kind, stays, p), p), True)
                self.assertIs(alike(kind, turned(kind, stays), stays), True)


class Chains(unittest.TestCase):
    def same(self, kind, p, q):
        self.assertEqual(p is None, q is None)
        if p is not None:
            self.assertIs(alike(kind, p, q), True)

    def chain(self, kind, p, q, r):
        """Both ways of putting three patches together, and the turned ones the other way round."""
        first, last = behind(kind, p, q), behind(kind, q, r)
        left = None if first is None else behind(kind, first, r)
        right = None if last is None else behind(kind, p, last)
        self.same(kind, left, right)
        self.same(kind, None if first is None else turned(kind, first), behind(kind, turned(kind, q), turned(kind, p)))
        return left is not None

    def test_by_chance(self):
        chance = Chance(4)
        for kind in SMALL_KINDS:
            for _ in range(40):
                self.chain(kind, chance.patch(kind), chance.patch(kind), chance.patch(kind))

    def test_with_a_value_that_goes_through(self):
        chance = Fitting(5)
        for kind in SMALL_KINDS:
            for _ in range(40):
                value, patches = chance.value(kind), []
                for _ in range(3):
                    patches.append(chance.fit(kind, value))
                    value = outcome(kind, patches[-1], value)
                self.assertIs(self.chain(kind, *patches), True)

    def test_all_small_patches(self):
        for kind, size, limit in [(("set", BIT), 2, 1), (BIT, 1, 1), (("bag", BIT), 2, 1), (("table", BIT, BIT), 2, 1)]:
            patches = [patch for patch, _ in patches_of(kind, size, limit)][:20]
            for p, q, r in product(patches, patches, patches):
                self.chain(kind, p, q, r)


class Edges(unittest.TestCase):
    def test_many_parts(self):
        p = ("row", tuple(("keep", 1 + at % 5) if at % 2 else ("add", at % 10) for at in range(999)))
        back = turned(ROW, p)
        total = sum(part[1] for part in p[1] if part[0] == "keep")
        self.assertEqual(behind(ROW, p, back), ("row", (("keep", total),)))
        q = ("row", (("keep", 10000),))
        self.assertEqual(behind(ROW, q, q), q)
        self.assertIsNone(behind(ROW, q, ("row", (("keep", 9999),))))

    def test_may_be_beyond_what_is_handed_in(self):
        p = ("bag", ((0, 10000, 10000),))
        self.assertEqual(behind(BAG, p, p), ("bag", ((0, 10000, 20000),)))
        self.assertEqual(behind(BAG, turned(BAG, ("bag", ((0, 10000, -10000),))), p), ("bag", ((0, 0, 20000),)))
        row = ("row", (("add", 0),) * 900 + (("keep", 1),))
        later = ("row", (("keep", 900),) + (("add", 0),) * 900 + (("keep", 1),))
        self.assertEqual(behind(ROW, row, later), ("row", (("add", 0),) * 1800 + (("keep", 1),)))
        turn = ("turn", ((0, 399),), ())
        self.assertEqual(behind(BAG, turn, ("bag", ((0, 0, 10000),))), ("turn", ((0, 399),), ((0, 10000),)))


if __name__ == "__main__":
    unittest.main()
