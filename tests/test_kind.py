import unittest

from corrigenda.errors import BadKind
from corrigenda.kind import check_kind, check_value, few, weight
from corrigenda.patch import check_patch, cost, fits, made, sample, turned
from tests.makers import ANYTHING, BIT, SMALL_KINDS, THREE, deep_row, doubled, values_of

FOUR_BITS = ("record", (BIT, BIT, BIT, BIT))
# Each FOUR_BITS is 5 kinds: 1 + 3 * 5 + 3, 1 + 3 * 5 + 4 and 1 + 4 * 5 in all.
NINETEEN = ("record", (FOUR_BITS, FOUR_BITS, FOUR_BITS, ("row", ("row", BIT))))
TWENTY = ("record", (FOUR_BITS, FOUR_BITS, FOUR_BITS, ("record", (BIT, BIT, BIT))))
TWENTY_ONE = ("record", (FOUR_BITS, FOUR_BITS, FOUR_BITS, FOUR_BITS))

GOOD = SMALL_KINDS + [
    ("number", 2),
    ("number", 1000),
    ("record", (BIT,)),
    ("record", (BIT, BIT, BIT, BIT)),
    ("choice", (BIT, BIT)),
    ("choice", (BIT, BIT, BIT, BIT)),
    deep_row(4),
    ("set", ("bag", ("table", ("record", (BIT,)), BIT))),
    ("table", BIT, ("table", BIT, ("table", BIT, ("table", BIT, BIT)))),
    NINETEEN,
    TWENTY,
]

BAD = [
    ("number", 1),
    ("number", 0),
    ("number", -2),
    ("number", 1001),
    ("number", 10 ** 50),
    ("number", True),
    ("number", None),
    ("number", "2"),
    ("number", (2,)),
    ("number",),
    ("number", 2, 2),
    ("record", ()),
    ("record", (BIT, BIT, BIT, BIT, BIT)),
    ("record", BIT),
    ("record", BIT, BIT),
    ("record", 2),
    ("record", None),
    ("record", "ab"),
    ("record",),
    ("choice", ()),
    ("choice", (BIT,)),
    ("choice", (BIT, BIT, BIT, BIT, BIT)),
    ("choice", BIT, BIT),
    ("choice", 2),
    ("row", (BIT,)),
    ("row",),
    ("row", BIT, BIT),
    ("row", ()),
    ("set", 2),
    ("set",),
    ("set", BIT, BIT),
    ("bag", None),
    ("bag", BIT, BIT),
    ("table", BIT),
    ("table", BIT, BIT, BIT),
    ("table", (BIT, BIT)),
    ("table", ("number", 1), BIT),
    ("table", BIT, ("number", 1)),
    ("list", BIT),
    ("Row", BIT),
    ("", BIT),
    (None, BIT),
    (0, BIT),
    (True, BIT),
    (("row",), BIT),
    (doubled(0, 59), BIT),
    (doubled(0, 59), doubled(0, 59)),
    ("row", ("row", ("number", 1))),
    ("record", (BIT, ("set", None))),
    deep_row(5),
    deep_row(50),
    ("record", (BIT, deep_row(4))),
    TWENTY_ONE,
    ("row", TWENTY),
    ("record", (doubled(BIT, 50), BIT)),
]


def wide(deep):
    """A tuple that would be a kind, but for the depth, with 4 ** deep kinds in it."""
    kind = BIT
    for _ in range(deep):
        kind = ("record", (kind, kind, kind, kind))
    return kind


class CheckKind(unittest.TestCase):
    def test_kinds(self):
        for kind in GOOD:
            with self.subTest(kind=kind):
                self.assertIsNone(check_kind(kind))

    def test_no_kinds(self):
        for kind in BAD + [wide(4), wide(5), wide(29)]:
            with self.assertRaises(BadKind):
                check_kind(kind)

    def test_anything_else(self):
        for kind in ANYTHING:
            if kind != BIT:
                with self.subTest(kind=kind), self.assertRaises(BadKind):
                    check_kind(kind)

    def test_all_refuse(self):
        same = ("same",)
        for kind in BAD[:20]:
            calls = [(check_value, (0,)), (weight, (0,)), (few, (5,)), (check_patch, (same,)), (cost, (same,)),
                     (fits, (same, 0)), (made, (same, 0)), (turned, (same,)), (sample, (same,))]
            for function, given in calls:
                with self.subTest(kind=kind, function=function.__name__), self.assertRaises(BadKind):
                    function(kind, *given)

    def test_how_many_kinds(self):
        self.assertIsNone(check_kind(("record", (FOUR_BITS, FOUR_BITS, FOUR_BITS, ("record", (BIT, BIT, BIT))))))
        with self.assertRaises(BadKind):
            check_kind(("record", (FOUR_BITS, FOUR_BITS, FOUR_BITS, ("record", (BIT, BIT, BIT, BIT)))))
        self.assertIsNone(check_kind(("choice", (FOUR_BITS, FOUR_BITS, FOUR_BITS, ("choice", (BIT, BIT, BIT))))))
        with self.assertRaises(BadKind):
            check_kind(("choice", (FOUR_BITS, FOUR_BITS, FOUR_BITS, ("table", BIT, ("table", BIT, BIT)))))


class Few(unittest.TestCase):
    def exactly(self, kind, many):
        for most in (many, many + 1, 2000):
            self.assertEqual(few(kind, most), many)
        for most in (many - 1, many // 2, 1, 0):
            self.assertIsNone(few(kind, most))

    def test_numbers(self):
        for n in (2, 3, 999, 1000):
            self.exactly(("number", n), n)

    def test_records_and_choices(self):
        self.exactly(("record", (THREE,)), 3)
        self.exactly(("record", (THREE, BIT, ("number", 5))), 30)
        self.exactly(("choice", (THREE, BIT, ("number", 5))), 10)
        self.exactly(("choice", (("number", 1000), ("number", 1000))), 2000)
        self.exactly(("record", (("number", 1000), BIT)), 2000)

    def test_sets_and_tables(self):
        self.exactly(("set", BIT), 4)
        self.exactly(("set", ("number", 10)), 1024)
        self.exactly(("set", ("set", THREE)), 256)
        self.exactly(("table", BIT, THREE), 16)
        self.exactly(("table", THREE, BIT), 27)
        self.exactly(("table", ("set", BIT), BIT), 81)
        self.exactly(("table", BIT, ("table", BIT, BIT)), 100)

    def test_more_than_most(self):
        numbers = ("number", 1000)
        for kind in (("set", ("number", 11)), ("set", numbers), ("table", numbers, numbers),
                     ("table", BIT, numbers), ("table", ("number", 7), BIT), ("record", (numbers, THREE)),
                     ("record", (numbers, numbers, numbers, numbers)), ("choice", (numbers, numbers, BIT)),
                     ("set", ("set", ("set", THREE))), ("choice", (BIT, ("set", ("number", 11))))):
            self.assertIsNone(few(kind, 2000))

    def test_without_end(self):
        for kind in (("row", BIT), ("bag", BIT), ("record", (BIT, ("row", BIT))), ("choice", (BIT, ("bag", BIT))),
                     ("set", ("row", BIT)), ("set", ("bag", BIT)), ("table", ("row", BIT), BIT),
                     ("table", BIT, ("bag", BIT)), ("row", ("set", BIT)), ("bag", ("set", BIT))):
            for most in (0, 1, 1000, 2000):
                self.assertIsNone(few(kind, most))

    def test_as_many_as_there_are(self):
        for kind in SMALL_KINDS:
            many = few(kind, 100)
            if many is not None:
                self.assertEqual(many, len(values_of(kind, 30)))

    def test_beyond_the_bounds_of_most(self):
        self.assertEqual(few(("set", ("number", 11)), 3000), 2048)
        self.assertIsNone(few(BIT, -1))


if __name__ == "__main__":
    unittest.main()
