import unittest

from corrigenda.errors import BadValue
from corrigenda.kind import check_value, weight
from corrigenda.patch import fits, made
from tests.makers import ANYTHING, BIT, EITHER, PAIR, SMALL_KINDS, TEN, THREE, belongs, doubled, values_of

WEIGHTS = [
    (TEN, 0, 1),
    (TEN, 9, 1),
    (PAIR, (1, 2), 3),
    (("record", (PAIR,)), ((0, 0),), 4),
    (EITHER, (0, 1), 2),
    (EITHER, (1, (2, 2, 0)), 5),
    (("row", TEN), (), 1),
    (("row", TEN), (5, 3, 5), 4),
    (("row", PAIR), ((1, 1), (0, 0)), 7),
    (("set", TEN), (), 1),
    (("set", TEN), (0, 4, 9), 4),
    (("set", ("row", BIT)), ((), (0,), (0, 0), (1,)), 9),
    (("bag", TEN), (), 1),
    (("bag", TEN), ((0, 1), (3, 5)), 7),
    (("bag", PAIR), (((0, 1), 2), ((1, 0), 3)), 16),
    (("table", TEN, BIT), (), 1),
    (("table", TEN, BIT), ((1, 0), (7, 1)), 5),
    (("table", ("set", BIT), ("bag", BIT)), (((), ((0, 3),)), ((0, 1), ())), 10),
]

BAD = [
    (TEN, (10, -1, True, False, None, "1", "", (), (1,), ((),), 10 ** 60, -10 ** 60)),
    (PAIR, ((), (1,), (1, 2, 0), (2, 0), (0, 3), (True, 0), (0, None), ("0", 0), ((0,), 0), ((0, 0),), 1, None, "ab",
            True)),
    (EITHER, ((), (0,), (0, 0, 0), (2, 0), (-1, 0), (-1, ()), (-2, 0), (2, ()), (False, 0), (True, ()), (0, True),
              (0, ()), (1, 0), (None, 0), ("0", 0), ((0,), 0), 0, None, "ab", (10 ** 30, 0))),
    (("row", BIT), (0, None, True, "01", (2,), (0, 1, 2), (True,), (0, None), ((0,),), ((),))),
    (("set", BIT), (0, None, True, "01", (2,), (True,), (False, True), (1, 0), (0, 0), (0, 1, 1), ((0,),))),
    (("set", ("row", BIT)), (((0,), ()), ((), ()), ((1,), (0, 1)), ((), (0, 2)), ((), 0))),
    (("bag", BIT), (0, None, True, "01", (0,), (0, 1), ((0,),), ((0, 1, 1),), ((0, 0),), ((0, -1),), ((0, True),),
                    ((0, None),), ((2, 1),), ((True, 1),), ((1, 1), (0, 1)), ((0, 1), (0, 1)), ((0, 1), (0, 2)),
                    ((0, (1,)),), ((0, "1"),), ((0, 1), 1))),
    (("table", BIT, THREE), (0, None, True, "01", (0,), (0, 1), ((0,),), ((0, 1, 1),), ((0, 3),), ((2, 0),),
                             ((True, 0),), ((0, True),), ((0, None),), ((1, 0), (0, 0)), ((0, 0), (0, 1)),
                             ((0, 0), (0, 0)), ((0, 0), 1), ((0, ()),))),
]

BIG = ("number", 1000)


def repeated(value, many):
    return (value,) * many


# A value of weight 400, and one that only differs by being heavier.
EDGES = [
    (("row", BIT), repeated(0, 399), repeated(0, 400)),
    (("row", ("row", BIT)), repeated((), 399), repeated((), 400)),
    (("row", ("row", BIT)), repeated((0, 1), 133), repeated((0, 1), 132) + ((0, 0, 0),)),
    (("set", BIG), tuple(range(399)), tuple(range(400))),
    (("bag", BIT), ((0, 399),), ((0, 400),)),
    (("bag", BIT), ((0, 199), (1, 200)), ((0, 200), (1, 200))),
    (("bag", PAIR), (((0, 0), 133),), (((0, 0), 134),)),
    (("bag", ("bag", BIT)), ((((1, 2),), 133),), ((((1, 2),), 134),)),
    (("bag", ("bag", BIT)), ((((1, 398),), 1),), ((((1, 399),), 1),)),
    (("record", (("row", BIT), ("row", BIT))), (repeated(0, 197), repeated(0, 200)),
     (repeated(0, 198), repeated(0, 200))),
    (("choice", (BIT, ("row", BIT))), (1, repeated(1, 398)), (1, repeated(1, 399))),
    (("table", BIG, ("row", BIT)), ((0, repeated(0, 397)),), ((0, repeated(0, 398)),)),
    (("table", BIG, ("bag", BIT)), ((0, ()), (1, ((0, 395),))), ((0, ()), (1, ((0, 396),)))),
]


class CheckValue(unittest.TestCase):
    def refused(self, kind, value):
        for function, given in ((check_value, (value,)), (weight, (value,)), (fits, (("same",), value)),
                                (made, (("same",), value))):
            with self.subTest(kind=kind, function=function.__name__), self.assertRaises(BadValue):
                function(kind, *given)

    def test_values(self):
        for kind, value, heavy in WEIGHTS:
            with self.subTest(kind=kind, value=value):
                self.assertIsNone(check_value(kind, value))
                self.assertEqual(weight(kind, value), heavy)

    def test_all_light_values(self):
        for kind in SMALL_KINDS:
            for value, heavy in values_of(kind, 6):
                self.assertIsNone(check_value(kind, value))
                self.assertEqual(weight(kind, value), heavy)

    def test_no_values(self):
        for kind, values in BAD:
            for value in values:
                self.refused(kind, value)

    def test_values_of_another_kind(self):
        light = {kind: [value for value, _ in values_of(kind, 5)] for kind in SMALL_KINDS}
        for kind in SMALL_KINDS:
            for value in [value for other in SMALL_KINDS for value in light[other]]:
                if belongs(kind, value):
                    self.assertIsNone(check_value(kind, value))
                else:
                    with self.assertRaises(BadValue):
                        check_value(kind, value)

    def test_anything_else(self):
        for kind in SMALL_KINDS:
            for value in ANYTHING:
                if any(isinstance(value, other) for other in (bool, str, None.__class__)):
                    self.refused(kind, value)

    def test_the_edge_of_the_weight(self):
        for kind, light, heavy in EDGES:
            self.assertIsNone(check_value(kind, light))
            self.assertEqual(weight(kind, light), 400)
            self.refused(kind, heavy)

    def test_far_too_heavy(self):
        for value in (((0, 10 ** 100),), ((0, 399), (1, 1))):
            self.refused(("bag", BIT), value)
        self.refused(("row", BIT), repeated(0, 10 ** 6))
        self.refused(deep_kind(4), deep_value(4))

    def test_one_tuple_in_very_many_places(self):
        self.refused(("set", ("record", (BIT, BIT))), doubled(0))
        self.refused(("record", (("row", BIT), ("row", BIT))), doubled(()))
        self.refused(("set", ("row", ("row", BIT))), (doubled(0, 58), doubled(0, 58)))


def deep_kind(deep):
    return ("row", deep_kind(deep - 1)) if deep else BIT


def deep_value(deep):
    return repeated(deep_value(deep - 1), 399) if deep else 0


if __name__ == "__main__":
    unittest.main()
