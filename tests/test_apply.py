import unittest

from corrigenda.errors import BadValue, Unfit
from corrigenda.patch import fits, made, sample, turned
from tests.makers import (
    BAG, BIT, EITHER, PAIR, ROW, SAME, SET, SMALL_KINDS, TABLE, TEN, Chance, NoFit, meant, values_of,
)

STEPS = ("row", (("keep", 2), ("cut", 5), ("add", 7), ("add", 8), ("mend", ("turn", 1, 2)), ("keep", 1)))
CHANGES = ("set", ((0, "cut"), (1, "add"), (2, "in"), (3, "out")))
COUNTS = ("bag", ((0, 0, 2), (1, 1, 0), (2, 2, -2), (3, 3, -1)))
ENTRIES = ("table", ((0, ("cut", 1)), (1, ("add", 0)), (2, ("mend", ("turn", 0, 1))), (3, ("out",))))

# A kind, a patch, and what it makes of values; None where it does not fit.
MADE = [
    (TEN, SAME, [(3, 3), (0, 0)]),
    (TEN, ("only", 3), [(3, 3), (4, None)]),
    (TEN, ("turn", 3, 4), [(3, 4), (4, None), (0, None)]),
    (PAIR, ("record", (SAME, ("turn", 1, 2))), [((0, 1), (0, 2)), ((1, 1), (1, 2)), ((1, 2), None), ((1, 0), None)]),
    (PAIR, ("record", (("only", 1), ("turn", 1, 2))), [((0, 1), None), ((1, 1), (1, 2)), ((1, 2), None)]),
    (PAIR, ("turn", (0, 0), (1, 2)), [((0, 0), (1, 2)), ((1, 2), None)]),
    (EITHER, ("choice", 0, SAME), [((0, 0), (0, 0)), ((0, 1), (0, 1)), ((1, ()), None)]),
    (EITHER, ("choice", 1, ("row", (("add", 2), ("keep", 1)))), [((1, (0,)), (1, (2, 0))), ((1, ()), None),
                                                                ((0, 0), None)]),
    (EITHER, ("turn", (0, 1), (1, (2,))), [((0, 1), (1, (2,))), ((0, 0), None)]),
    (ROW, STEPS, [((0, 9, 5, 1, 4), (0, 9, 7, 8, 2, 4)), ((0, 9, 5, 1), None), ((0, 9, 5, 1, 4, 4), None),
                  ((0, 9, 6, 1, 4), None), ((0, 9, 5, 2, 4), None), ((), None), ((0,), None)]),
    (ROW, ("row", ()), [((), ()), ((0,), None)]),
    (ROW, ("row", (("keep", 2),)), [((), None), ((1,), None), ((1, 2), (1, 2)), ((1, 2, 3), None)]),
    (ROW, ("row", (("add", 1), ("add", 2))), [((), (1, 2)), ((1,), None)]),
    (ROW, ("row", (("cut", 1), ("add", 1))), [((1,), (1,)), ((), None), ((2,), None)]),
    (ROW, ("row", (("mend", ("only", 1)),)), [((1,), (1,)), ((), None), ((2,), None)]),
    (ROW, ("row", (("keep", 1), ("add", 5), ("keep", 1))), [((1, 2), (1, 5, 2)), ((1,), None), ((1, 2, 3), None)]),
    (SET, CHANGES, [((0, 2), (1, 2)), ((0, 2, 9), (1, 2, 9)), ((2,), None), ((0, 1, 2), None), ((0,), None),
                    ((0, 2, 3), None), ((), None)]),
    (SET, ("set", ()), [((), ()), ((1, 2), (1, 2))]),
    (SET, ("set", ((9, "add"),)), [((), (9,)), ((1,), (1, 9)), ((9,), None)]),
    (SET, ("set", ((5, "add"),)), [((1, 9), (1, 5, 9))]),
    (BAG, COUNTS, [(((1, 1), (2, 2), (3, 3)), ((0, 2), (1, 1), (3, 2))), (((2, 2), (3, 3)), None),
                   (((0, 1), (1, 2), (2, 3), (3, 4), (9, 1)), ((0, 3), (1, 2), (2, 1), (3, 3), (9, 1))),
                   (((1, 1), (2, 1), (3, 3)), None), (((1, 1), (2, 2), (3, 2)), None), ((), None)]),
    (BAG, ("bag", ()), [((), ()), (((4, 4),), ((4, 4),))]),
    (BAG, ("bag", ((3, 0, 1),)), [((), ((3, 1),)), (((1, 1), (9, 9)), ((1, 1), (3, 1), (9, 9)))]),
    (BAG, ("bag", ((0, 10000, -10000),)), [(((0, 300),), None)]),
    (BAG, ("bag", ((0, 0, 10000),)), [(((0, 300),), ((0, 10300),))]),
    (TABLE, ENTRIES, [(((0, 1), (2, 0)), ((1, 0), (2, 1))), (((0, 1), (2, 0), (9, 0)), ((1, 0), (2, 1), (9, 0))),
                      (((0, 0), (2, 0)), None), (((0, 1), (2, 1)), None), (((2, 0),), None), (((0, 1),), None),
                      (((0, 1), (1, 1), (2, 0)), None), (((0, 1), (1, 0), (2, 0)), None), ((), None),
                      (((0, 1), (2, 0), (3, 0)), None)]),
    (TABLE, ("table", ()), [((), ()), (((1, 1),), ((1, 1),))]),
    (("table", BIT, PAIR), ("table", ((1, ("mend", ("record", (("turn", 0, 1), ("only", 2))))),)),
     [(((0, (1, 1)), (1, (0, 2))), ((0, (1, 1)), (1, (1, 2)))), (((1, (0, 1)),), None), (((1, (1, 2)),), None)]),
    (("table", BIT, EITHER), ("table", ((0, ("mend", ("choice", 1, ("row", (("keep", 1), ("add", 2)))))),)),
     [(((0, (1, (0,))),), ((0, (1, (0, 2))),)), (((0, (0, 1)),), None), (((0, (1, ())),), None)]),
    (("row", PAIR), ("row", (("mend", ("record", (("turn", 0, 1), SAME))), ("keep", 1))),
     [(((0, 2), (0, 0)), ((1, 2), (0, 0))), (((1, 2), (0, 0)), None)]),
    (TABLE, ("table", ((1, ("mend", SAME)),)), [((), None), (((1, 0),), ((1, 0),)), (((2, 0),), None)]),
]


def light(kind, limit=6):
    return [value for value, _ in values_of(kind, limit)]


class Made(unittest.TestCase):
    def test_what_it_makes(self):
        for kind, patch, pairs in MADE:
            for value, outcome in pairs:
                with self.subTest(kind=kind, patch=patch, value=value):
                    if outcome is None:
                        self.assertIs(fits(kind, patch, value), False)
                        with self.assertRaises(Unfit):
                            made(kind, patch, value)
                    else:
                        self.assertIs(fits(kind, patch, value), True)
                        self.assertEqual(made(kind, patch, value), outcome)

    def test_by_chance_as_meant(self):
        chance = Chance(3)
        for kind in SMALL_KINDS:
            values = light(kind)
            for _ in range(25):
                patch = chance.patch(kind)
                for value in values[:200]:
                    self.as_meant(kind, patch, value)

    def as_meant(self, kind, patch, value):
        try:
            outcome = meant(kind, patch, value)
        except NoFit:
            self.assertIs(fits(kind, patch, value), False)
            with self.assertRaises(Unfit):
                made(kind, patch, value)
            return
        self.assertIs(fits(kind, patch, value), True)
        self.assertEqual(made(kind, patch, value), outcome)

    def test_may_be_heavier_than_what_is_handed_in(self):
        row = (0,) * 399
        self.assertEqual(made(ROW, ("row", (("keep", 399), ("add", 1))), row), row + (1,))
        self.assertEqual(made(BAG, ("bag", ((0, 0, 10000),)), ()), ((0, 10000),))
        with self.assertRaises(BadValue):
            made(ROW, ("row", (("keep", 400),)), row + (1,))
        with self.assertRaises(BadValue):
            fits(ROW, ("row", (("keep", 400),)), row + (1,))


class Turned(unittest.TestCase):
    def test_every_form(self):
        cases = [
            (TEN, SAME, SAME),
            (TEN, ("only", 1), ("only", 1)),
            (TEN, ("turn", 1, 2), ("turn", 2, 1)),
            (PAIR, ("record", (("turn", 0, 1), SAME)), ("record", (("turn", 1, 0), SAME))),
            (EITHER, ("choice", 0, ("turn", 0, 1)), ("choice", 0, ("turn", 1, 0))),
        ]
        for kind, patch, back in cases:
            self.assertEqual(turned(kind, patch), back)

    def test_leads_back(self):
        for kind, patch, pairs in MADE:
            back = turned(kind, patch)
            for value, outcome in pairs:
                if outcome is not None and outcome != ((0, 10300),):
                    with self.subTest(kind=kind, patch=patch, value=value):
                        self.assertIs(fits(kind, back, outcome), True)
                        self.assertEqual(made(kind, back, outcome), value)

    def test_leads_back_beyond_what_is_handed_in(self):
        back = turned(BAG, ("bag", ((0, 10000, 10000),)))
        self.assertEqual(meant(BAG, back, ((0, 20000),)), ((0, 10000),))
        with self.assertRaises(NoFit):
            meant(BAG, back, ((0, 19999),))

    def test_fits_just_what_is_made(self):
        chance = Chance(4, limit=4)
        for kind in SMALL_KINDS:
            values = light(kind)
            for _ in range(25):
                self.just(kind, chance.patch(kind), values[:300])

    def just(self, kind, patch, values):
        back = turned(kind, patch)
        for value in values:
            if fits(kind, patch, value):
                self.assertEqual(made(kind, back, made(kind, patch, value)), value)
            # What the turned patch fits is made by the patch, of what the turned one makes of it.
            if fits(kind, back, value):
                self.assertEqual(made(kind, patch, made(kind, back, value)), value)


class Sample(unittest.TestCase):
    def test_fits_its_patch(self):
        for kind, patch, _ in MADE:
            value = sample(kind, patch)
            self.assertEqual(meant(kind, patch, value) is None, False)
            self.assertIs(value == ((0, 10000),) or fits(kind, patch, value), True)

    def test_by_chance(self):
        chance = Chance(5)
        for kind in SMALL_KINDS:
            for _ in range(80):
                patch = chance.patch(kind)
                self.assertIs(fits(kind, patch, sample(kind, patch)), True)

    def test_one_value_alone(self):
        self.assertEqual(sample(TEN, ("only", 4)), 4)
        self.assertEqual(sample(TEN, ("turn", 4, 5)), 4)
        self.assertEqual(sample(PAIR, ("record", (("only", 1), ("turn", 2, 0)))), (1, 2))
        self.assertEqual(sample(EITHER, ("choice", 1, ("row", (("cut", 2), ("add", 1))))), (1, (2,)))
        self.assertEqual(sample(ROW, ("row", ())), ())

    def test_may_be_heavier_than_what_is_handed_in(self):
        self.assertEqual(len(sample(ROW, ("row", (("keep", 10000),)))), 10000)
        value = sample(BAG, ("bag", ((3, 10000, -10000),)))
        self.assertEqual(meant(BAG, ("bag", ((3, 10000, -10000),)), value), ())


if __name__ == "__main__":
    unittest.main()
