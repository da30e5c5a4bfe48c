import unittest

from corrigenda.kind import check_value, few, light_value, weight
from corrigenda.patch import sample
from corrigenda.supply import fresh, supply
from tests.makers import BIT, SAME, SMALL_KINDS, THREE, values_of

NAMES = ("number", 1000)
KINDS = SMALL_KINDS + [
    NAMES, ("set", NAMES), ("bag", NAMES), ("row", NAMES), ("table", NAMES, NAMES), ("record", (NAMES,) * 4),
    ("choice", (("row", BIT), NAMES, THREE)), ("set", ("set", THREE)), ("table", BIT, ("table", BIT, THREE)),
    ("record", (THREE, ("number", 7), ("set", THREE))),
]


class Supply(unittest.TestCase):
    def test_so_many_values_or_all_of_them(self):
        for kind in KINDS:
            for many in (1, 2, 3, 7, 30, 200, 1001):
                found = supply(kind, many)
                every = few(kind, 2000)
                self.assertEqual(len(found), many if every is None else min(many, every), kind)
                self.assertEqual(len(set(found)), len(found))
                for value in found:
                    self.assertIsNone(check_value(kind, value))

    def test_what_is_not_taken(self):
        for kind in KINDS:
            taken = {}
            while len(taken) < 40 and (few(kind, 2000) is None or len(taken) < few(kind, 2000)):
                value = fresh(kind, taken)
                self.assertIsNone(check_value(kind, value))
                self.assertNotIn(value, taken)
                taken[value] = True
            if len(taken) == few(kind, 2000):
                self.assertIsNone(fresh(kind, taken))

    def test_no_value_is_lighter(self):
        for kind in SMALL_KINDS + [("choice", (("record", (BIT, BIT)), BIT)), ("choice", (BIT, ("row", BIT))),
                                   ("record", (("choice", (("record", (BIT,)), ("set", BIT))), BIT))]:
            light = weight(kind, light_value(kind))
            self.assertEqual(values_of(kind, light - 1), [])
            self.assertEqual(sample(kind, SAME), light_value(kind))


if __name__ == "__main__":
    unittest.main()
