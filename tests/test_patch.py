import unittest

from corrigenda.errors import BadPatch
from corrigenda.kind import check_value
from corrigenda.patch import check_patch, cost, fits, made, sample, turned
from tests.makers import (
    ANYTHING, BAG, BIT, EITHER, PAIR, ROW, SAME, SET, SMALL_KINDS, TABLE, TEN, Chance, doubled,
)

NESTED = ("row", ("table", BIT, ("bag", ("set", BIT))))
BIG = ("number", 1000)

# Each patch with its cost.
GOOD = [
    (TEN, ("same",), 0),
    (TEN, ("only", 9), 0),
    (TEN, ("turn", 9, 0), 2),
    (PAIR, ("only", (1, 2)), 0),
    (PAIR, ("turn", (1, 2), (1, 1)), 6),
    (PAIR, ("record", (SAME, SAME)), 0),
    (PAIR, ("record", (("turn", 0, 1), ("only", 2))), 2),
    (PAIR, ("record", (("turn", 0, 1), ("turn", 2, 0))), 4),
    (("record", (PAIR,)), ("record", (("record", (SAME, ("turn", 0, 1))),)), 2),
    (EITHER, ("choice", 0, SAME), 0),
    (EITHER, ("choice", 0, ("turn", 1, 0)), 2),
    (EITHER, ("choice", 1, ("row", (("add", 2),))), 1),
    (EITHER, ("turn", (0, 1), (1, (2, 2))), 6),
    (ROW, ("row", ()), 0),
    (ROW, ("row", (("keep", 1), ("keep", 3), ("cut", 0), ("add", 9), ("mend", ("turn", 1, 2)), ("add", 0))), 5),
    (ROW, ("only", (1, 2, 3)), 0),
    (ROW, ("turn", (), (1,)), 3),
    (("row", PAIR), ("row", (("cut", (0, 1)), ("mend", ("record", (SAME, ("turn", 1, 2)))), ("add", (1, 1)))), 8),
    (SET, ("set", ()), 0),
    (SET, ("set", ((0, "cut"), (1, "add"), (2, "in"), (9, "out"))), 2),
    (SET, ("set", ((0, "in"), (1, "add"), (2, "in"), (9, "out"))), 1),
    (SET, ("set", ((0, "cut"), (1, "out"))), 1),
    (("set", PAIR), ("set", (((0, 0), "cut"), ((0, 1), "out"), ((1, 0), "add"), ((1, 2), "in"))), 6),
    (BAG, ("bag", ()), 0),
    (BAG, ("bag", ((0, 0, 1), (1, 1, 0), (2, 1, -1), (3, 5, -2), (9, 2, 4))), 8),
    (("bag", PAIR), ("bag", (((0, 0), 3, -3), ((1, 1), 0, 2))), 15),
    (TABLE, ("table", ()), 0),
    (("table", BIT, PAIR), ("table", ((0, ("mend", ("record", (("turn", 0, 1), SAME)))), (1, ("add", (0, 0))))), 6),
    (("table", PAIR, BIT), ("table", (((0, 0), ("mend", ("turn", 0, 1))), ((1, 0), ("cut", 1)))), 6),
    (TABLE, ("table", ((0, ("cut", 1)), (1, ("add", 0)), (2, ("mend", ("turn", 0, 1))), (9, ("out",)))), 6),
    (("table", PAIR, ("row", BIT)), ("table", (((0, 0), ("cut", (1, 1))), ((1, 0), ("mend", SAME)))), 6),
    (NESTED, ("row", (("mend", ("table", ((0, ("mend", ("bag", (((0, 1), 0, 3),)))),))), ("keep", 2))), 9),
]

NO_PATCH = [
    (TEN, [("number", 5), ("number", SAME), ("number",), ("turn", 3, 3), ("turn", 3), ("turn", 3, 4, 5), ("only",),
           ("only", 10), ("only", True), ("only", 1, 2), ("same", 1), ("same", ()), ("turn", 0, True), ("turn", 0, 10),
           ("turn", -1, 0), ("turn", False, 1), ("row", ()), ("Same",), ("", 0), (0, 1), (("same",),), (True,)]),
    (PAIR, [("record",), ("record", ()), ("record", (SAME,)), ("record", (SAME, SAME, SAME)), ("record", SAME, SAME),
            ("record", (SAME, None)), ("record", (SAME, ("only", 3))), ("record", (("only", 2), SAME)),
            ("record", SAME), ("record", None), ("record", 2), ("turn", (0, 0), (0, 0)), ("only", (0,)),
            ("turn", (0, 0), (0, True)), ("choice", 0, SAME), ("record", ("same", "same"))]),
    (EITHER, [("choice", 2, SAME), ("choice", -1, SAME), ("choice", True, SAME), ("choice", None, SAME),
              ("choice", 0), ("choice", 0, SAME, SAME), ("choice", 0, ("only", ())), ("choice", 1, ("only", 0)),
              ("choice", 0, 0), ("choice", "0", SAME), ("choice", (0, SAME)), ("choice", SAME, 0),
              ("only", (0, ())), ("turn", (0, 1), (0, 1)), ("record", (SAME, SAME)), ("choice", 0, None)]),
    (ROW, [("row",), ("row", (), ()), ("row", None), ("row", 3), ("row", "ab"), ("row", SAME), ("row", ("keep", 1)),
           ("row", (("keep", 0),)), ("row", (("keep", -1),)), ("row", (("keep", True),)), ("row", (("keep", "1"),)),
           ("row", (("keep", None),)), ("row", (("keep", (1,)),)), ("row", (("keep",),)), ("row", (("keep", 1, 1),)),
           ("row", (("cut", 10),)), ("row", (("cut", True),)), ("row", (("cut",),)), ("row", (("cut", 0, 0),)),
           ("row", (("add", 10),)), ("row", (("add", None),)), ("row", (("mend", 0),)), ("row", (("mend",),)),
           ("row", (("mend", SAME, SAME),)), ("row", (("mend", ("row", ())),)), ("row", (("mend", "same"),)),
           ("row", (("skip", 1),)), ("row", (("skip", SAME),)), ("row", ((None, SAME),)), ("row", ((1, 1),)),
           ("row", ((("keep", 1),),)), ("row", (None,)), ("row", (3,)),
           ("row", ("keep",)), ("row", (("in", 1),)), ("row", (("out",),)), ("set", ()), ("only", (10,)),
           ("row", (("keep", 1), None)), ("turn", (1,), (1,)), ("only", 1), ("row", ((),))]),
    (SET, [("set",), ("set", (), ()), ("set", None), ("set", 3), ("set", "ab"), ("set", (0, "in")), ("set", (0,)),
           ("set", ((0,),)), ("set", ((0, "in", "in"),)), ("set", ((0, "mend"),)), ("set", ((0, "keep"),)),
           ("set", ((0, None),)), ("set", ((0, True),)), ("set", ((0, ("in",)),)), ("set", ((10, "in"),)),
           ("set", ((True, "in"),)), ("set", (("in", 0),)), ("set", ((0, "in"), (0, "in"))),
           ("set", ((0, "cut"), (0, "add"))), ("set", ((1, "in"), (0, "in"))),
           ("set", ((0, "in"), (2, "in"), (1, "in"))),
           ("row", ()), ("bag", ()), ("only", (1, 0)), ("turn", (), ()), ("set", ((0, "in"), None)), ("set", ("ab",))]),
    (BAG, [("bag",), ("bag", (), ()), ("bag", None), ("bag", 3), ("bag", "abc"), ("bag", (0, 1, 1)),
           ("bag", ((0, 1),)), ("bag", ((0, 1, 1, 1),)), ("bag", ((0, 0, 0),)), ("bag", ((0, -1, 1),)),
           ("bag", ((0, 0, -1),)), ("bag", ((0, 4, -5),)), ("bag", ((0, True, 0),)), ("bag", ((0, 1, False),)),
           ("bag", ((0, 1, True),)), ("bag", ((0, None, 1),)), ("bag", ((0, 1, None),)), ("bag", ((0, "1", 1),)),
           ("bag", ((0, 1, "1"),)), ("bag", ((0, (1,), 1),)), ("bag", ((0, 1, (1,)),)), ("bag", ((10, 1, 1),)),
           ("bag", ((True, 1, 1),)), ("bag", ((1, 1, 1), (0, 1, 1))), ("bag", ((0, 1, 1), (0, 2, 2))), ("set", ()),
           ("only", ((0, 0),)), ("turn", (), ((0, True),)), ("bag", ((0, 1, 1), None)), ("bag", ("abc",))]),
    (TABLE, [("table",), ("table", (), ()), ("table", None), ("table", 3), ("table", "ab"), ("table", (0, ("out",))),
             ("table", ((0,),)), ("table", ((0, ("out",), 0),)), ("table", ((0, "out"),)), ("table", ((0, None),)),
             ("table", ((0, ()),)), ("table", ((0, ("out", 0)),)), ("table", ((0, ("cut",)),)),
             ("table", ((0, ("cut", 2)),)), ("table", ((0, ("cut", True)),)), ("table", ((0, ("add", 2)),)),
             ("table", ((0, ("add",)),)), ("table", ((0, ("cut", 0, 0)),)), ("table", ((0, ("mend",)),)),
             ("table", ((0, ("mend", 0)),)), ("table", ((0, ("mend", ("only", 2))),)), ("table", ((0, ("in",)),)),
             ("table", ((0, ("keep", 1)),)), ("table", ((0, ("keep", SAME)),)),
             ("table", ((10, ("out",)),)), ("table", ((True, ("out",)),)),
             ("table", ((0, (("out",),)),)), ("table", ((1, ("out",)), (0, ("out",)))),
             ("table", ((0, ("out",)), (0, ("out",)))), ("table", ((0, ("cut", 0)), (0, ("add", 1)))), ("set", ()),
             ("only", ((0, 2),)), ("turn", (), ()), ("table", ((0, ("out",)), None)), ("table", ("ab",))]),
    (NESTED, [("row", (("mend", ("table", ((0, ("mend", ("bag", (((1, 0), 0, 3),)))),))),)),
              ("row", (("mend", ("row", ())),)), ("row", (("mend", ("table", ((0, ("mend", ("set", ()))),))),)),
              ("row", (("mend", ("table", ((2, ("out",)),))),))]),
]

HEAVY = ("row", BIG)
V400 = (0,) * 399
V401 = (0,) * 400
W400 = (1,) * 399


def sames(many):
    return (("mend", SAME),) * many


# A kind, a patch that may be handed in, and one that is beyond the edge.
EDGES = [
    (("row", BIT), ("row", (("add", 0),) * 999), ("row", (("add", 0),) * 1000)),
    (("row", BIT), ("row", (("keep", 1),) * 999), ("row", (("keep", 1),) * 1000)),
    (("row", BIT), ("row", sames(499) + (("add", 0),)), ("row", sames(500))),
    (("record", (("row", BIT), BIT)), ("record", (("row", (("add", 0),) * 997), SAME)),
     ("record", (("row", (("add", 0),) * 998), SAME))),
    (("choice", (("row", BIT), BIT)), ("choice", 0, ("row", (("add", 0),) * 998)),
     ("choice", 0, ("row", (("add", 0),) * 999))),
    (("set", BIG), ("set", tuple((v, "in") for v in range(999))), ("set", tuple((v, "in") for v in range(1000)))),
    (("bag", BIG), ("bag", tuple((v, 1, 1) for v in range(999))), ("bag", tuple((v, 1, 1) for v in range(1000)))),
    (("table", BIG, BIT), ("table", tuple((v, ("out",)) for v in range(999))),
     ("table", tuple((v, ("out",)) for v in range(1000)))),
    (("table", BIG, BIT), ("table", tuple((v, ("mend", SAME)) for v in range(499)) + ((499, ("add", 0)),)),
     ("table", tuple((v, ("mend", SAME)) for v in range(500)))),
    (("row", ("row", BIT)), ("row", (("mend", ("row", (("add", 0),) * 496)), ("mend", ("row", (("add", 0),) * 499)))),
     ("row", (("mend", ("row", (("add", 0),) * 497)), ("mend", ("row", (("add", 0),) * 499))))),
    (("row", BIT), ("row", (("keep", 10000),)), ("row", (("keep", 10001),))),
    (("row", BIT), ("row", (("keep", 1), ("add", 0), ("keep", 9999))),
     ("row", (("keep", 2), ("add", 0), ("keep", 9999)))),
    (("row", BIT), ("row", (("keep", 5000), ("keep", 5000))), ("row", (("keep", 5000), ("keep", 5000), ("keep", 1)))),
    (BAG, ("bag", ((0, 10000, 0),)), ("bag", ((0, 10001, 0),))),
    (BAG, ("bag", ((0, 0, 10000),)), ("bag", ((0, 0, 10001),))),
    (BAG, ("bag", ((0, 10000, -10000),)), ("bag", ((0, 10001, -10000),))),
    (BAG, ("bag", ((0, 10000, -10000),)), ("bag", ((0, 10001, -10001),))),
    (BAG, ("bag", ((0, 10000, -9999),)), ("bag", ((0, 10000, -10001),))),
    (BAG, ("bag", ((0, 2, -2),)), ("bag", ((0, 2, -3),))),
    (BAG, ("bag", ((0, 10000, 10000),)), ("bag", ((0, 10 ** 60, 10 ** 60),))),
    (HEAVY, ("only", V400), ("only", V401)),
    (HEAVY, ("turn", V400, W400), ("turn", V401, W400)),
    (HEAVY, ("turn", W400, V400), ("turn", W400, V401)),
    (("row", HEAVY), ("row", (("cut", V400), ("add", W400))), ("row", (("cut", V401), ("add", W400)))),
    (("row", HEAVY), ("row", (("cut", W400), ("add", V400))), ("row", (("cut", W400), ("add", V401)))),
    (("row", HEAVY), ("row", (("mend", ("only", V400)),)), ("row", (("mend", ("only", V401)),))),
    (("set", HEAVY), ("set", ((V400, "cut"), (W400, "in"))), ("set", ((V401, "cut"), (W400, "in")))),
    (("bag", HEAVY), ("bag", ((V400, 9, 9), (W400, 1, -1))), ("bag", ((V401, 9, 9), (W400, 1, -1)))),
    (("table", HEAVY, HEAVY), ("table", ((V400, ("cut", W400)),)), ("table", ((V401, ("cut", W400)),))),
    (("table", HEAVY, HEAVY), ("table", ((V400, ("add", W400)),)), ("table", ((V400, ("add", V401)),))),
    (("table", HEAVY, HEAVY), ("table", ((V400, ("out",)),)), ("table", ((V401, ("out",)),))),
    (("bag", BIT), ("only", ((0, 399),)), ("only", ((0, 400),))),
    (("bag", BIT), ("turn", ((0, 199), (1, 200)), ()), ("turn", ((0, 200), (1, 200)), ())),
]


# Things that count 1 each, in a patch of a row, and in one of a table.
ONES = [("keep", 1), ("cut", 0), ("add", 1)]
CHANGES = [("out",), ("cut", 0), ("add", 1)]
# Patches that count 1 each.
PATCHES = [SAME, ("only", 0), ("turn", 0, 1)]


class CheckPatch(unittest.TestCase):
    def refused(self, kind, patch):
        for function in (check_patch, cost, turned, sample):
            with self.subTest(kind=kind, function=function.__name__), self.assertRaises(BadPatch):
                function(kind, patch)
        for function in (fits, made):
            for value in (0, None):
                with self.subTest(kind=kind, function=function.__name__), self.assertRaises(BadPatch):
                    function(kind, patch, value)

    def test_patches(self):
        for kind, patch, _ in GOOD:
            with self.subTest(kind=kind, patch=patch):
                self.assertIsNone(check_patch(kind, patch))

    def test_no_patches(self):
        for kind, patches in NO_PATCH:
            for patch in patches:
                self.refused(kind, patch)

    def test_anything_else(self):
        for kind in SMALL_KINDS:
            for patch in ANYTHING:
                if patch != SAME:
                    self.refused(kind, patch)

    def test_patches_of_another_kind(self):
        for kind, patch, _ in GOOD:
            for other in (TEN, PAIR, EITHER, ROW, SET, BAG, TABLE):
                if patch[0] not in ("same", "only", "turn") and patch[0] != other[0]:
                    self.refused(other, patch)

    def test_the_edges(self):
        for kind, patch, beyond in EDGES:
            self.assertIsNone(check_patch(kind, patch))
            self.refused(kind, beyond)

    def test_what_counts_one(self):
        kind = ("row", BIT)
        for one in ONES:
            self.assertIsNone(check_patch(kind, ("row", (one,) + sames(499))))
            self.refused(kind, ("row", (one,) + sames(499) + (one,)))
        for patch in PATCHES:
            self.assertIsNone(check_patch(kind, ("row", (("mend", patch),) * 499 + (("add", 0),))))
            self.refused(kind, ("row", (("mend", patch),) * 500))
        kind = ("table", BIG, BIT)
        mends = tuple((key, ("mend", SAME)) for key in range(1, 500))
        for change in CHANGES:
            self.assertIsNone(check_patch(kind, ("table", ((0, change),) + mends)))
            self.refused(kind, ("table", ((0, change),) + mends + ((500, change),)))

    def test_keeps_are_added_up_in_one_row_alone(self):
        inner = ("row", (("keep", 10000),))
        patch = ("row", (("mend", inner), ("keep", 10000), ("mend", inner)))
        self.assertIsNone(check_patch(("row", ("row", BIT)), patch))

    def test_weights_are_not_added_up(self):
        patch = ("row", (("cut", V400), ("add", V400)) * 9)
        self.assertIsNone(check_patch(("row", HEAVY), patch))
        self.assertEqual(cost(("row", HEAVY), patch), 7200)

    def test_one_tuple_in_very_many_places(self):
        kind = ("row", ("row", ("row", ("row", BIT))))
        patch = SAME
        for _ in range(4):
            patch = ("row", (("mend", patch),) * 900)
        self.refused(kind, patch)
        self.refused(kind, doubled(SAME))
        self.refused(kind, ("only", doubled(())))
        self.refused(("set", kind[1]), ("set", ((doubled(()), "in"), (doubled(()), "in"))))


class Cost(unittest.TestCase):
    def test_cost(self):
        for kind, patch, price in GOOD:
            with self.subTest(kind=kind, patch=patch):
                self.assertEqual(cost(kind, patch), price)

    def test_at_the_edges(self):
        self.assertEqual(cost(BAG, ("bag", ((0, 10000, -10000), (1, 0, 10000)))), 20000)
        self.assertEqual(cost(HEAVY, ("turn", V400, W400)), 800)
        self.assertEqual(cost(("bag", HEAVY), ("bag", ((V400, 5, -3),))), 1200)
        self.assertEqual(cost(("row", BIT), ("row", (("keep", 10000),))), 0)

    def test_turned_costs_the_same(self):
        chance = Chance(1)
        for kind in SMALL_KINDS:
            for _ in range(40):
                patch = chance.patch(kind)
                self.assertEqual(cost(kind, turned(kind, patch)), cost(kind, patch))


class Chances(unittest.TestCase):
    def test_what_is_told_is_a_patch_and_a_value(self):
        chance = Chance(2)
        for kind in SMALL_KINDS:
            for _ in range(60):
                patch = chance.patch(kind)
                self.assertIsNone(check_patch(kind, patch))
                self.assertIsNone(check_patch(kind, turned(kind, patch)))
                self.assertIsNone(check_value(kind, sample(kind, patch)))


if __name__ == "__main__":
    unittest.main()
