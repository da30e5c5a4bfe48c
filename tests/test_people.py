"""Kinds that people use, edited as people edit."""

import unittest
from itertools import permutations

from corrigenda.behind import alike, apart, behind, normal
from corrigenda.kind import check_value
from corrigenda.least import bound, distance, least, worth
from corrigenda.patch import check_patch, cost, made, turned
from corrigenda.together import quarrel, rest, together
from tests.makers import SAME, Wide
from tests.search import far, outcome, together_meant

LETTER = ("number", 27)
NAME = ("row", LETTER)
PERSONS = ("row", ("record", (NAME, ("number", 120))))
STATE = ("choice", (("number", 2), ("record", (("number", 50), ("number", 5))), NAME))
TASKS = ("table", ("number", 100), ("record", (STATE, ("set", ("number", 20)))))
STORE = ("table", ("number", 30), ("bag", ("record", (("number", 40), ("number", 3)))))
LEAF = ("choice", (LETTER, ("row", LETTER)))
TREE = ("choice", (LETTER, ("record", (LEAF, LEAF)), ("row", ("choice", (LETTER, LETTER)))))
TABLES = ("table", ("number", 20), ("table", ("number", 20), ("bag", ("number", 9))))


def name(text):
    return tuple("abcdefghijklmnopqrstuvwxyz".index(letter) for letter in text)


def spelled(**ages):
    return tuple((name(each), age) for each, age in ages.items())


ADA, BOB, EVE = ((name(each), 30) for each in ("ada", "bob", "eve"))
OLDER = ("mend", ("record", (SAME, ("turn", 30, 31))))
BOBBY = ("mend", ("record", (("row", (("keep", 3),) + tuple(("add", letter) for letter in name("by"))), SAME)))

# For each kind a value and some others; each two of these are compared.
VALUES = {
    PERSONS: [spelled(ada=30, bob=40), spelled(ada=31, bob=40), spelled(bob=40, ada=30), spelled(ada=30, bobby=40),
              spelled(eve=9, ada=30, bob=40), spelled(), spelled(carl=77)],
    TASKS: [((1, ((0, 0), (2, 5))), (7, ((1, (3, 4)), ()))), ((1, ((0, 1), (2, 5))), (7, ((1, (3, 4)), (9,)))),
            ((1, ((2, name("wait")), (2,))), (8, ((1, (3, 4)), ()))), (), ((7, ((1, (2, 4)), ())),)],
    STORE: [((0, (((1, 0), 12), ((2, 1), 5))), (4, ())), ((0, (((1, 0), 10), ((2, 1), 5))), (4, (((1, 0), 2),))),
            ((0, (((2, 1), 6),)),), ((5, (((1, 0), 30),)),), ()],
    TREE: [(0, 3), (1, ((0, 1), (1, (2, 3)))), (1, ((1, (1,)), (1, (2, 3, 4)))), (2, ((0, 1), (1, 1))), (2, ((1, 1),)),
           (1, ((0, 2), (1, (2, 3))))],
    TABLES: [((1, ((1, ((0, 3),)), (2, ()))), (2, ())), ((1, ((1, ((0, 1),)),)), (2, ((5, ((1, 1),)),))),
             ((3, ((1, ((0, 3),)), (2, ()))),), ()],
}


class People(unittest.TestCase):
    def test_every_two_values(self):
        for kind, values in VALUES.items():
            for v in values:
                self.assertIsNone(check_value(kind, v))
                for w in values:
                    patch = least(kind, v, w)
                    self.assertIsNone(check_patch(kind, patch))
                    self.assertEqual(made(kind, patch, v), w)
                    self.assertEqual(cost(kind, patch), distance(kind, v, w))
                    self.assertEqual(distance(kind, v, w), far(kind, v, w))
                    self.assertEqual(worth(kind, v, w, bound(kind, v, w)), distance(kind, v, w))
                    self.assertEqual(made(kind, turned(kind, patch), w), v)
                    self.assertIs(alike(kind, patch, turned(kind, turned(kind, patch))), True)
                    self.ways(kind, v, w, patch)

    def ways(self, kind, v, w, patch):
        """By way of every third value."""
        for x in VALUES[kind]:
            there, on = least(kind, v, x), least(kind, x, w)
            self.assertLessEqual(cost(kind, patch), cost(kind, there) + cost(kind, on))
            self.assertEqual(made(kind, behind(kind, there, on), v), w)
            both = together(kind, v, patch, there)
            self.assertEqual(both, together_meant(kind, v, patch, there, least))
            if both is not None:
                self.assertEqual(made(kind, rest(kind, v, patch, there), w), made(kind, both, v))
            told = apart(kind, patch, there)
            self.assertEqual(told is None, normal(kind, patch) == normal(kind, there))
            if told is not None:
                self.assertNotEqual(outcome(kind, patch, told), outcome(kind, there, told))

    def test_persons(self):
        v = (ADA, BOB)
        older, longer = ("row", (OLDER, ("keep", 1))), ("row", (("keep", 1), BOBBY))
        gone, eve = ("row", (("cut", ADA), ("keep", 1))), ("row", (("keep", 2), ("add", EVE)))
        both = together(PERSONS, v, older, longer)
        self.assertEqual(both, ("row", (OLDER, BOBBY)))
        self.assertEqual(made(PERSONS, both, v), ((name("ada"), 31), (name("bobby"), 30)))
        self.assertEqual(together(PERSONS, v, both, eve), ("row", (OLDER, BOBBY, ("add", EVE))))
        self.assertIs(quarrel(PERSONS, v, older, gone), True)
        self.assertEqual(rest(PERSONS, v, gone, longer), ("row", (BOBBY,)))
        self.assertEqual(behind(PERSONS, older, turned(PERSONS, older)),
                         ("row", (("mend", ("record", (SAME, ("only", 30)))), ("keep", 1))))
        self.assertEqual(distance(PERSONS, v, (ADA, (name("bobby"), 30), EVE)), 2 + 6)

    def test_tasks(self):
        v = VALUES[TASKS][0]
        done = ("table", ((1, ("mend", ("record", (("choice", 0, ("turn", 0, 1)), SAME)))),))
        marked = ("table", ((1, ("mend", ("record", (SAME, ("set", ((2, "cut"), (3, "add"))))))),))
        waits = ("table", ((1, ("mend", ("record", (("turn", (0, 0), (2, ())), SAME)))),))
        self.assertEqual(together(TASKS, v, done, marked),
                         ("table", ((1, ("mend", ("record", (("choice", 0, ("turn", 0, 1)),
                                                             ("set", ((2, "cut"), (3, "add"))))))),)))
        self.assertIsNone(together(TASKS, v, done, waits))
        self.assertIs(quarrel(TASKS, v, marked, waits), False)
        self.assertIs(quarrel(TASKS, v, marked, ("table", ((1, ("cut", v[0][1])),))), True)

    def test_store(self):
        v = VALUES[STORE][0]
        sold = ("table", ((0, ("mend", ("bag", (((1, 0), 3, -3),)))),))
        more = ("table", ((0, ("mend", ("bag", (((2, 1), 0, 20),)))), (9, ("add", ()))))
        both = together(STORE, v, sold, more)
        self.assertEqual(made(STORE, both, v), ((0, (((1, 0), 9), ((2, 1), 25))), (4, ()), (9, ())))
        self.assertIs(quarrel(STORE, v, sold, ("table", ((0, ("mend", ("bag", (((1, 0), 2, -2),)))),))), True)
        self.assertEqual(behind(STORE, sold, sold), ("table", ((0, ("mend", ("bag", (((1, 0), 6, -6),)))),)))
        self.assertIs(alike(STORE, behind(STORE, more, turned(STORE, more)),
                            ("table", ((0, ("mend", SAME)), (9, ("out",))))), True)

    def test_all_orders_of_many_patches(self):
        chance = Wide(1)
        for kind, values in VALUES.items():
            for v in values:
                patches = [chance.fit(kind, v) for _ in range(8)]
                for p, q, r in permutations(patches[:4], 3):
                    if not (quarrel(kind, v, p, q) or quarrel(kind, v, p, r) or quarrel(kind, v, q, r)):
                        one = together(kind, v, together(kind, v, p, q), r)
                        self.assertEqual(one, together(kind, v, p, together(kind, v, q, r)))
                        self.assertIsNotNone(one)
                for p, q in zip(patches, patches[1:]):
                    self.assertEqual(together(kind, v, p, q), together_meant(kind, v, p, q, least))


if __name__ == "__main__":
    unittest.main()
