import unittest
from collections import defaultdict

from corrigenda.behind import alike, apart, behind, normal
from corrigenda.kind import check_value, few
from corrigenda.patch import check_patch, sample, turned
from tests.makers import (
    BAG, BIT, EITHER, PAIR, ROW, SAME, SET, SMALL_KINDS, TABLE, TEN, THREE, Chance, Fitting, values_of,
)
from tests.search import outcome, patches_of

TURN = ("turn", 0, 1)
MEND = ("record", (TURN, SAME))
FIRST = ("only", 0)
PAIRS = ("row", PAIR)
TWO_SET = ("set", BIT)
TWO_TABLE = ("table", BIT, THREE)
DEEP = ("row", ("table", BIT, ("set", BIT)))

# A kind, a patch, and its normal form.
NORMAL = [
    (TEN, SAME, SAME),
    (TEN, ("only", 3), ("only", 3)),
    (TEN, ("turn", 3, 4), ("turn", 3, 4)),
    (PAIR, ("only", (0, 1)), ("only", (0, 1))),
    (PAIR, ("record", (FIRST, ("only", 2))), ("only", (0, 2))),
    (PAIR, ("record", (TURN, ("only", 2))), ("turn", (0, 2), (1, 2))),
    (PAIR, ("record", (SAME, SAME)), SAME),
    (PAIR, ("record", (SAME, ("only", 2))), ("record", (SAME, ("only", 2)))),
    (PAIR, ("record", (TURN, SAME)), ("record", (TURN, SAME))),
    (("record", (PAIR, TEN)), ("record", (("record", (SAME, SAME)), SAME)), SAME),
    (("record", (PAIR, TEN)), ("record", (("record", (FIRST, FIRST)), SAME)), ("record", (("only", (0, 0)), SAME))),
    (("record", (BIT,)), ("record", (SAME,)), SAME),
    (("record", (BIT,)), ("record", (TURN,)), ("turn", (0,), (1,))),
    (EITHER, ("choice", 0, SAME), ("choice", 0, SAME)),
    (EITHER, ("choice", 0, FIRST), ("only", (0, 0))),
    (EITHER, ("choice", 0, TURN), ("turn", (0, 0), (0, 1))),
    (EITHER, ("choice", 1, ("row", ())), ("only", (1, ()))),
    (EITHER, ("choice", 1, ("row", (("keep", 1), ("keep", 1)))), ("choice", 1, ("row", (("keep", 2),)))),
    (ROW, ("row", ()), ("only", ())),
    (ROW, ("row", (("cut", 1),)), ("turn", (1,), ())),
    (ROW, ("row", (("add", 1),)), ("turn", (), (1,))),
    (ROW, ("row", (("cut", 1), ("add", 1))), ("only", (1,))),
    (ROW, ("row", (("add", 1), ("cut", 1))), ("only", (1,))),
    (ROW, ("row", (("add", 2), ("cut", 1), ("add", 3), ("cut", 4))), ("turn", (1, 4), (2, 3))),
    (ROW, ("row", (("mend", ("only", 1)), ("mend", ("turn", 2, 3)))), ("turn", (1, 2), (1, 3))),
    (ROW, ("row", (("keep", 1),)), ("row", (("keep", 1),))),
    (ROW, ("row", (("keep", 1), ("keep", 2), ("keep", 3))), ("row", (("keep", 6),))),
    (ROW, ("row", (("mend", SAME),)), ("row", (("keep", 1),))),
    (ROW, ("row", (("mend", SAME), ("keep", 2), ("mend", SAME), ("mend", SAME))), ("row", (("keep", 5),))),
    (ROW, ("row", (("keep", 1), ("mend", ("only", 2)))), ("row", (("keep", 1), ("cut", 2), ("add", 2)))),
    (ROW, ("row", (("keep", 1), ("mend", ("turn", 2, 3)))), ("row", (("keep", 1), ("cut", 2), ("add", 3)))),
    (ROW, ("row", (("mend", ("turn", 2, 3)), ("mend", ("only", 4)), ("keep", 1))),
     ("row", (("cut", 2), ("cut", 4), ("add", 3), ("add", 4), ("keep", 1)))),
    (ROW, ("row", (("add", 5), ("cut", 6), ("keep", 1), ("add", 7), ("cut", 8))),
     ("row", (("cut", 6), ("add", 5), ("keep", 1), ("cut", 8), ("add", 7)))),
    (ROW, ("row", (("add", 5), ("mend", SAME), ("add", 6), ("keep", 1), ("cut", 7), ("keep", 1))),
     ("row", (("add", 5), ("keep", 1), ("add", 6), ("keep", 1), ("cut", 7), ("keep", 1)))),
    (PAIRS, ("row", (("mend", ("record", (SAME, SAME))),)), ("row", (("keep", 1),))),
    (PAIRS, ("row", (("mend", ("record", (FIRST, FIRST))), ("keep", 1))),
     ("row", (("cut", (0, 0)), ("add", (0, 0)), ("keep", 1)))),
    (PAIRS, ("row", (("mend", MEND),)), ("row", (("mend", MEND),))),
    (PAIRS, ("row", (("add", (0, 0)), ("mend", MEND), ("cut", (0, 0)))),
     ("row", (("add", (0, 0)), ("mend", MEND), ("cut", (0, 0))))),
    (PAIRS, ("row", (("mend", ("record", (TURN, FIRST))),)), ("turn", ((0, 0),), ((1, 0),))),
    (TWO_SET, ("set", ()), SAME),
    (TWO_SET, ("set", ((0, "in"), (1, "out"))), ("only", (0,))),
    (TWO_SET, ("set", ((0, "out"), (1, "out"))), ("only", ())),
    (TWO_SET, ("set", ((0, "cut"), (1, "out"))), ("turn", (0,), ())),
    (TWO_SET, ("set", ((0, "cut"), (1, "add"))), ("turn", (0,), (1,))),
    (TWO_SET, ("set", ((0, "add"), (1, "in"))), ("turn", (1,), (0, 1))),
    (TWO_SET, ("set", ((0, "in"),)), ("set", ((0, "in"),))),
    (TWO_SET, ("set", ((1, "add"),)), ("set", ((1, "add"),))),
    (SET, ("set", tuple((at, "out") for at in range(10))), ("only", ())),
    (SET, ("set", tuple((at, "out") for at in range(9))), ("set", tuple((at, "out") for at in range(9)))),
    (("set", PAIR), ("set", tuple(((x, y), "in") for x in range(2) for y in range(3))),
     ("only", tuple((x, y) for x in range(2) for y in range(3)))),
    (("set", PAIR), ("set", (((0, 0), "in"),)), ("set", (((0, 0), "in"),))),
    (("set", ROW), ("set", (((), "in"),)), ("set", (((), "in"),))),
    (("set", ("set", BIT)), ("set", (((), "in"), ((0,), "cut"), ((0, 1), "out"), ((1,), "add"))),
     ("turn", ((), (0,)), ((), (1,)))),
    (BAG, ("bag", ()), SAME),
    (("bag", BIT), ("bag", ((0, 1, 0), (1, 1, -1))), ("bag", ((0, 1, 0), (1, 1, -1)))),
    (("bag", BIT), ("bag", ((0, 0, 1),)), ("bag", ((0, 0, 1),))),
    (TABLE, ("table", ()), SAME),
    (TWO_TABLE, ("table", ((0, ("mend", SAME)),)), ("table", ((0, ("mend", SAME)),))),
    (TWO_TABLE, ("table", ((0, ("mend", SAME)), (1, ("out",)))), ("table", ((0, ("mend", SAME)), (1, ("out",))))),
    (TWO_TABLE, ("table", ((0, ("out",)), (1, ("out",)))), ("only", ())),
    (TWO_TABLE, ("table", ((0, ("cut", 2)), (1, ("add", 1)))), ("turn", ((0, 2),), ((1, 1),))),
    (TWO_TABLE, ("table", ((0, ("mend", ("only", 2))), (1, ("out",)))), ("only", ((0, 2),))),
    (TWO_TABLE, ("table", ((0, ("mend", ("turn", 2, 1))), (1, ("cut", 0)))), ("turn", ((0, 2), (1, 0)), ((0, 1),))),
    (TWO_TABLE, ("table", ((0, ("mend", ("turn", 2, 1))),)), ("table", ((0, ("mend", ("turn", 2, 1))),))),
    (TWO_TABLE, ("table", ((0, ("cut", 2)),)), ("table", ((0, ("cut", 2)),))),
    (("table", ROW, BIT), ("table", (((), ("cut", 0)),)), ("table", (((), ("cut", 0)),))),
    (("table", BIT, PAIR), ("table", ((0, ("mend", ("record", (SAME, SAME)))),)), ("table", ((0, ("mend", SAME)),))),
    (("table", BIT, PAIR), ("table", ((0, ("mend", ("record", (FIRST, FIRST)))), (1, ("out",)))),
     ("only", ((0, (0, 0)),))),
    (("table", BIT, PAIR), ("table", ((0, ("mend", MEND)), (1, ("out",)))),
     ("table", ((0, ("mend", MEND)), (1, ("out",))))),
    (DEEP, ("row", (("mend", ("table", ((0, ("mend", ("set", ((0, "in"), (1, "add"))))), (1, ("out",))))),)),
     ("turn", (((0, (0,)),),), (((0, (0, 1)),),))),
    (DEEP, ("row", (("keep", 1),
                    ("mend", ("table", ((0, ("mend", ("set", ((0, "in"), (1, "add"))))), (1, ("out",))))))),
     ("row", (("keep", 1), ("cut", ((0, (0,)),)), ("add", ((0, (0, 1)),))))),
    (DEEP, ("row", (("mend", ("table", ())), ("mend", ("table", ((0, ("mend", ("set", ()))),))))),
     ("row", (("keep", 1), ("mend", ("table", ((0, ("mend", SAME)),)))))),
]

# The kinds all of whose small patches are compared: with their size, the weight of values, and the weight of those
# values that tell every two of these patches apart.
SEARCHED = [
    (BIT, 1, 1, 1),
    (THREE, 1, 1, 1),
    (("record", (BIT,)), 2, 2, 2),
    (("record", (BIT, THREE)), 3, 3, 3),
    (("choice", (BIT, THREE)), 2, 2, 2),
    (("choice", (BIT, ("set", BIT))), 3, 4, 4),
    (("row", BIT), 4, 3, 8),
    (("row", ("record", (BIT, BIT))), 3, 4, 13),
    (("set", BIT), 3, 3, 3),
    (("set", THREE), 4, 3, 4),
    (("bag", BIT), 3, 3, 9),
    (("table", BIT, BIT), 5, 3, 5),
    (("table", BIT, ("set", BIT)), 4, 3, 9),
    (("record", (("set", BIT), BIT)), 4, 5, 5),
]


class Normal(unittest.TestCase):
    def test_by_hand(self):
        for kind, patch, form in NORMAL:
            with self.subTest(kind=kind, patch=patch):
                self.assertIsNone(check_patch(kind, patch))
                self.assertEqual(normal(kind, patch), form)
                self.assertEqual(normal(kind, form), form)
                self.assertIs(alike(kind, patch, form), True)
                self.assertIsNone(apart(kind, patch, form))

    def test_by_chance(self):
        chance = Chance(1)
        for kind in SMALL_KINDS:
            values = [value for value, _ in values_of(kind, 6)][:120]
            for _ in range(30):
                patch = chance.patch(kind)
                form = normal(kind, patch)
                self.assertIsNone(check_patch(kind, form))
                self.assertEqual(normal(kind, form), form)
                for value in values + [sample(kind, patch)]:
                    self.assertEqual(outcome(kind, form, value), outcome(kind, patch, value))

    def test_of_the_turned_one(self):
        chance = Chance(2)
        for kind in SMALL_KINDS:
            for _ in range(30):
                patch = chance.patch(kind)
                self.assertEqual(normal(kind, turned(kind, normal(kind, patch))), normal(kind, turned(kind, patch)))

    def test_many_kept_items(self):
        parts = (("mend", SAME), ("keep", 1)) * 180
        self.assertEqual(normal(ROW, ("row", parts)), ("row", (("keep", 360),)))
        self.assertEqual(normal(ROW, ("row", (("keep", 9999), ("mend", SAME)))), ("row", (("keep", 10000),)))
        self.assertEqual(normal(ROW, ("row", (("keep", 1),) * 300 + (("add", 1),) + (("keep", 1),) * 300)),
                         ("row", (("keep", 300), ("add", 1), ("keep", 300))))

    def test_all_settled_or_all_but_one(self):
        for many in (2, 10, 300, 998):
            kind, words = ("number", many), ["in", "out", "cut", "add"]
            changes = tuple((v, words[v % 4]) for v in range(many))
            v = tuple(v for v in range(many) if v % 4 in (0, 2))
            w = tuple(v for v in range(many) if v % 4 in (0, 3))
            self.assertEqual(normal(("set", kind), ("set", changes)), ("turn", v, w) if v != w else ("only", v))
            self.assertEqual(normal(("set", kind), ("set", changes[1:])), ("set", changes[1:]))
            self.assertEqual(normal(("set", kind), ("set", changes[:-1])), ("set", changes[:-1]))
            changes = tuple((v, ("out",)) for v in range(many))
            self.assertEqual(normal(("table", kind, BIT), ("table", changes)), ("only", ()))
            self.assertEqual(normal(("table", kind, BIT), ("table", changes[1:])), ("table", changes[1:]))
            one = ((0, ("mend", SAME)),) + changes[1:]
            self.assertEqual(normal(("table", kind, BIT), ("table", one)), ("table", one))
            one = ((0, ("mend", ("only", 1))),) + changes[1:]
            self.assertEqual(normal(("table", kind, BIT), ("table", one)), ("only", ((0, 1),)))


class Alike(unittest.TestCase):
    def tells(self, kind, p, q):
        """What apart tells is a value that tells them apart."""
        value = apart(kind, p, q)
        self.assertIsNone(check_value(kind, value))
        self.assertNotEqual(outcome(kind, p, value), outcome(kind, q, value), (kind, p, q, value))

    def test_all_small_patches(self):
        for kind, size, limit, most in SEARCHED:
            values = [value for value, _ in values_of(kind, most)]
            if few(kind, 2000) is not None:
                self.assertEqual(len(values), few(kind, 2000))
            by_effect, by_form = defaultdict(list), defaultdict(list)
            for at, (patch, _) in enumerate(patches_of(kind, size, limit)):
                by_effect[tuple(outcome(kind, patch, value) for value in values)].append(at)
                by_form[normal(kind, patch)].append(at)
            self.assertEqual(sorted(by_effect.values()), sorted(by_form.values()), kind)

    def test_all_small_patches_of_rows_of_sets(self):
        kind = ("row", TWO_SET)
        values = [value for value, _ in values_of(kind, 7) if len(value) <= 2]
        by_effect, by_form = defaultdict(list), defaultdict(list)
        for at, (patch, _) in enumerate(patches_of(kind, 5, 3)):
            made = tuple(outcome(kind, patch, value) for value in values)
            # A patch that fits longer rows alone is not told by these values.
            if patch[0] == "row" and made.count(None) < len(made):
                by_effect[made].append(at)
                by_form[normal(kind, patch)].append(at)
        self.assertGreater(len(by_form), 1000)
        self.assertEqual(sorted(by_effect.values()), sorted(by_form.values()))

    def test_apart_on_all_small_patches(self):
        for kind, size, limit, _ in SEARCHED:
            patches = [patch for patch, _ in patches_of(kind, min(size, 3), limit)]
            for step in (1, 7, 31):
                for at in range(0, len(patches), 1 + len(patches) // 300):
                    p, q = patches[at], patches[(at * 17 + step) % len(patches)]
                    if alike(kind, p, q):
                        self.assertIsNone(apart(kind, p, q))
                    else:
                        self.tells(kind, p, q)

    def test_apart_by_chance(self):
        chance = Chance(3)
        for kind in SMALL_KINDS:
            for _ in range(60):
                p, q = chance.patch(kind), chance.patch(kind)
                self.assertIs(alike(kind, p, q), normal(kind, p) == normal(kind, q))
                self.assertIs(alike(kind, q, p), alike(kind, p, q))
                if alike(kind, p, q):
                    self.assertIsNone(apart(kind, p, q))
                else:
                    self.tells(kind, p, q)
                    self.tells(kind, q, p)

    def test_apart_of_patches_that_fit_the_same_value(self):
        chance = Fitting(4)
        for kind in SMALL_KINDS:
            for _ in range(60):
                value = chance.value(kind)
                p, q = chance.fit(kind, value), chance.fit(kind, value)
                if not alike(kind, p, q):
                    self.tells(kind, p, q)
                    # Both are the same on what they fit, but not in what they fit.
                    stays, also = behind(kind, p, turned(kind, p)), behind(kind, q, turned(kind, q))
                    if not alike(kind, stays, also):
                        self.tells(kind, stays, also)
                    one = ("turn", value, outcome(kind, p, value))
                    one = ("only", value) if one[1] == one[2] else one
                    if not alike(kind, one, p):
                        self.tells(kind, one, p)
                        self.tells(kind, p, one)

    def test_written_otherwise(self):
        chance = Fitting(5)
        for kind in SMALL_KINDS:
            for _ in range(60):
                p = chance.fit(kind, chance.value(kind))
                q = chance.otherwise(kind, p)
                self.assertIsNone(check_patch(kind, q))
                self.assertEqual(normal(kind, p), normal(kind, q), (kind, p, q))
                self.assertIs(alike(kind, p, q), True)
                self.assertIsNone(apart(kind, p, q))

    def test_rows_written_otherwise(self):
        forms = [
            (("keep", 3), ("cut", 1), ("add", 2), ("cut", 3), ("add", 4), ("keep", 1)),
            (("keep", 1), ("keep", 2), ("cut", 1), ("cut", 3), ("add", 2), ("add", 4), ("mend", SAME)),
            (("mend", SAME), ("keep", 2), ("mend", ("turn", 1, 2)), ("mend", ("turn", 3, 4)), ("keep", 1)),
            (("keep", 3), ("add", 2), ("add", 4), ("cut", 1), ("cut", 3), ("keep", 1)),
        ]
        unlike = [
            (("keep", 3), ("cut", 3), ("add", 2), ("cut", 1), ("add", 4), ("keep", 1)),
            (("keep", 3), ("cut", 1), ("add", 4), ("cut", 3), ("add", 2), ("keep", 1)),
            (("keep", 3), ("cut", 1), ("cut", 3), ("keep", 1), ("add", 2), ("add", 4)),
            (("add", 2), ("keep", 3), ("cut", 1), ("cut", 3), ("add", 4), ("keep", 1)),
            (("keep", 2), ("cut", 1), ("add", 2), ("cut", 3), ("add", 4), ("keep", 2)),
            (("keep", 3), ("cut", 1), ("add", 2), ("cut", 3), ("add", 4), ("keep", 2)),
            (("keep", 3), ("cut", 1), ("add", 2), ("keep", 1), ("add", 4), ("keep", 1)),
            (("keep", 5), ("add", 4), ("keep", 1)),
            (("keep", 6),),
        ]
        for one in forms:
            for two in forms:
                self.assertIs(alike(ROW, ("row", one), ("row", two)), True)
            for two in unlike:
                self.assertIs(alike(ROW, ("row", one), ("row", two)), False)
                self.tells(ROW, ("row", one), ("row", two))
                self.tells(ROW, ("row", two), ("row", one))

    def test_apart_where_little_is_unlike(self):
        swap = ("mend", ("record", (TURN, ("set", ()))))
        turn = ("mend", ("record", (TURN, SAME)))
        kind = ("row", ("record", (BIT, ("set", THREE))))
        mend = ("mend", ("record", (SAME, ("set", ((1, "add"),)))))
        pairs = [
            (kind, ("row", (mend, ("keep", 1))), ("row", (("keep", 1), mend))),
            (kind, ("row", (mend, ("add", (0, ())))), ("row", (("add", (0, ())), mend))),
            (kind, ("row", (mend, ("keep", 90))), ("row", (("keep", 90), mend))),
            (kind, ("row", (swap, ("keep", 1))), ("row", (("mend", ("record", (TURN, SAME))), swap))),
            (ROW, ("row", (("add", 0), ("keep", 1))), ("row", (("keep", 1), ("add", 0)))),
            (ROW, ("row", (("add", 0), ("keep", 2))), ("row", (("keep", 2), ("add", 0)))),
            (ROW, ("row", (("keep", 1), ("add", 0), ("keep", 9))), ("row", (("keep", 10), ("add", 0)))),
            (kind, ("row", (("add", (1, ())), turn)), ("row", (turn, ("add", (1, ()))))),
            (ROW, ("row", (("cut", 1), ("keep", 300), ("add", 1))), ("row", (("cut", 1), ("add", 1), ("keep", 300)))),
            (ROW, ("row", (("keep", 300), ("cut", 1), ("add", 1))), ("row", (("keep", 301),))),
            (TWO_SET, ("set", ((0, "in"),)), ("only", (0,))),
            (TWO_SET, ("set", ((0, "in"),)), ("only", (0, 1))),
            (TWO_SET, ("set", ((0, "in"),)), SAME),
            (TWO_SET, ("set", ((0, "out"),)), SAME),
            (TWO_SET, ("set", ((0, "out"),)), ("set", ((1, "out"),))),
            (BAG, ("bag", ((0, 1, 0),)), SAME),
            (BAG, ("bag", ((0, 1, 0),)), ("only", ((0, 1),))),
            (BAG, ("bag", ((0, 2, -1),)), ("bag", ((0, 1, -1),))),
            (TABLE, ("table", ((1, ("mend", SAME)),)), SAME),
            (TABLE, ("table", ((1, ("out",)),)), SAME),
            (TABLE, ("table", ((1, ("out",)),)), ("only", ())),
            (TABLE, ("table", ((1, ("cut", 0)),)), ("table", ((1, ("cut", 1)),))),
            (TABLE, ("table", ((1, ("mend", ("only", 0))),)), ("table", ((1, ("mend", SAME)),))),
            (TABLE, ("table", ((1, ("mend", SAME)),)), ("only", ((1, 0),))),
            (("record", (ROW, SET)), SAME, ("record", (SAME, ("set", ((3, "out"),))))),
            (EITHER, ("choice", 0, SAME), SAME),
            (EITHER, ("choice", 1, SAME), SAME),
            (EITHER, ("choice", 1, SAME), ("choice", 0, SAME)),
            (EITHER, ("choice", 0, SAME), ("only", (0, 0))),
            (BIT, ("only", 0), SAME),
            (BIT, ("turn", 0, 1), ("only", 0)),
        ]
        for each, p, q in pairs:
            with self.subTest(kind=each, p=p, q=q):
                self.assertIs(alike(each, p, q), False)
                self.tells(each, p, q)
                self.tells(each, q, p)

    def test_a_value_beyond_many_settled_ones(self):
        for inner in (("number", 1000), ("row", BIT), ("bag", BIT), ("set", ("number", 9)), ("table", THREE, BIT),
                      ("record", (BIT, ("row", BIT))), ("choice", (BIT, ("bag", BIT)))):
            found = sorted(value for value, _ in values_of(inner, 1 + 8))[:400]
            changes = tuple((value, "out") for value in found)
            if few(inner, 2000) == len(changes):
                changes = changes[1:]
            kind = ("set", inner)
            self.tells(kind, ("set", changes), ("only", ()))
            self.tells(kind, ("set", changes), SAME)
            kind = ("table", inner, BIT)
            self.tells(kind, ("table", tuple((value, ("out",)) for value, _ in changes)), ("only", ()))

    def test_beyond_what_is_handed_in(self):
        p, q = ("row", (("keep", 9999), ("cut", 1), ("add", 2))), ("row", (("keep", 9999), ("cut", 1), ("add", 3)))
        value = apart(ROW, p, q)
        self.assertEqual(len(value), 10000)
        self.assertEqual(value[-1], 1)
        self.assertEqual(apart(BAG, ("bag", ((0, 10000, 1),)), ("bag", ((0, 10000, 2),))), ((0, 10000),))


if __name__ == "__main__":
    unittest.main()
