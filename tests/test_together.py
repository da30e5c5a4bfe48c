import unittest
from itertools import permutations

from corrigenda.behind import alike
from corrigenda.errors import BadKind, BadPatch, BadValue, Unfit
from corrigenda.least import least
from corrigenda.patch import check_patch, fits
from corrigenda.together import quarrel, rest, together
from tests.makers import BAG, EITHER, PAIR, ROW, SAME, SET, SMALL_KINDS, TABLE, TEN, Fitting
from tests.search import outcome, together_meant

TURN = ("turn", 0, 1)
PAIRS = ("row", PAIR)
FLIP = ("record", (TURN, SAME))
LIFT = ("record", (SAME, ("turn", 0, 1)))
HIGH = ("record", (SAME, ("turn", 0, 2)))
ROWS = ("row", ROW)
TABLES = ("table", TEN, PAIR)
V = (1, 2, 3)


def row(*parts):
    return ("row", parts)


def keep(many):
    return ("keep", many)


def cut(item):
    return ("cut", item)


def add(item):
    return ("add", item)


def mend(patch):
    return ("mend", patch)


# A kind, a value, p and q, and the outcome; None if they quarrel.
CASES = [
    # Numbers.
    (TEN, 3, SAME, SAME, SAME),
    (TEN, 3, ("only", 3), SAME, SAME),
    (TEN, 3, ("turn", 3, 4), SAME, ("turn", 3, 4)),
    (TEN, 3, ("only", 3), ("turn", 3, 4), ("turn", 3, 4)),
    (TEN, 3, ("turn", 3, 4), ("turn", 3, 4), ("turn", 3, 4)),
    (TEN, 3, ("turn", 3, 4), ("turn", 3, 5), None),
    # Records.
    (PAIR, (0, 0), FLIP, LIFT, ("record", (TURN, ("turn", 0, 1)))),
    (PAIR, (0, 0), FLIP, FLIP, FLIP),
    (PAIR, (0, 0), LIFT, HIGH, None),
    (PAIR, (0, 0), FLIP, SAME, FLIP),
    (PAIR, (0, 0), ("record", (("only", 0), SAME)), ("only", (0, 0)), SAME),
    (PAIR, (0, 0), ("record", (SAME, SAME)), ("record", (SAME, ("only", 0))), SAME),
    (PAIR, (0, 0), ("turn", (0, 0), (1, 0)), LIFT, ("record", (TURN, ("turn", 0, 1)))),
    (PAIR, (0, 0), ("turn", (0, 0), (1, 2)), LIFT, None),
    (PAIR, (0, 0), ("turn", (0, 0), (1, 2)), HIGH, ("record", (TURN, ("turn", 0, 2)))),
    (PAIR, (0, 0), ("turn", (0, 0), (1, 2)), ("turn", (0, 0), (1, 0)), ("record", (TURN, ("turn", 0, 2)))),
    (PAIR, (0, 0), ("turn", (0, 0), (1, 2)), ("turn", (0, 0), (1, 1)), None),
    (("record", (PAIR, ROW)), ((0, 0), ()), ("record", (FLIP, SAME)), ("record", (LIFT, row(add(1)))),
     ("record", (("record", (TURN, ("turn", 0, 1))), row(add(1))))),
    # Choices.
    (EITHER, (0, 0), ("choice", 0, TURN), SAME, ("choice", 0, TURN)),
    (EITHER, (0, 0), ("choice", 0, TURN), ("choice", 0, TURN), ("choice", 0, TURN)),
    (EITHER, (0, 0), ("choice", 0, SAME), ("choice", 0, ("only", 0)), SAME),
    (EITHER, (0, 0), ("turn", (0, 0), (0, 1)), ("choice", 0, TURN), ("choice", 0, TURN)),
    (EITHER, (0, 0), ("turn", (0, 0), (1, ())), SAME, ("turn", (0, 0), (1, ()))),
    (EITHER, (0, 0), ("turn", (0, 0), (1, ())), ("choice", 0, SAME), ("turn", (0, 0), (1, ()))),
    (EITHER, (0, 0), ("turn", (0, 0), (1, ())), ("choice", 0, TURN), None),
    (EITHER, (0, 0), ("turn", (0, 0), (1, ())), ("turn", (0, 0), (1, (1,))), None),
    (EITHER, (0, 0), ("turn", (0, 0), (1, ())), ("turn", (0, 0), (1, ())), ("turn", (0, 0), (1, ()))),
    (EITHER, (1, (0, 1)), ("choice", 1, row(cut(0), keep(1))), ("choice", 1, row(keep(2), add(2))),
     ("choice", 1, row(cut(0), keep(1), add(2)))),
    # Sets.
    (SET, (1, 2), ("set", ((1, "cut"),)), ("set", ((3, "add"),)), ("set", ((1, "cut"), (3, "add")))),
    (SET, (1, 2), ("set", ((1, "cut"),)), ("set", ((1, "in"),)), ("set", ((1, "cut"),))),
    (SET, (1, 2), ("set", ((1, "cut"), (2, "in"))), ("set", ((1, "cut"), (5, "out"))), ("set", ((1, "cut"),))),
    (SET, (1, 2), ("set", ((1, "in"),)), ("set", ((5, "out"),)), SAME),
    (SET, (1, 2), ("set", ((5, "add"),)), ("set", ((5, "out"),)), ("set", ((5, "add"),))),
    (SET, (1, 2), ("set", ((5, "add"),)), ("set", ((5, "add"),)), ("set", ((5, "add"),))),
    (SET, (1, 2), ("turn", (1, 2), (2, 3)), ("set", ((2, "cut"), (4, "add"))),
     ("set", ((1, "cut"), (2, "cut"), (3, "add"), (4, "add")))),
    (SET, (1, 2), ("turn", (1, 2), ()), ("turn", (1, 2), (1, 2, 3)), ("set", ((1, "cut"), (2, "cut"), (3, "add")))),
    # Bags.
    (BAG, ((1, 3),), ("bag", ((1, 3, -1),)), ("bag", ((2, 0, 2),)), ("bag", ((1, 1, -1), (2, 0, 2)))),
    (BAG, ((1, 3),), ("bag", ((1, 3, -1),)), ("bag", ((1, 1, -1),)), ("bag", ((1, 1, -1),))),
    (BAG, ((1, 3),), ("bag", ((1, 3, -1),)), ("bag", ((1, 2, -2),)), None),
    (BAG, ((1, 3),), ("bag", ((1, 3, -1),)), ("bag", ((1, 0, 1),)), None),
    (BAG, ((1, 3),), ("bag", ((1, 3, 4),)), ("bag", ((1, 2, 0),)), ("bag", ((1, 0, 4),))),
    (BAG, ((1, 3),), ("bag", ((1, 3, 0),)), ("bag", ((1, 2, 0),)), SAME),
    (BAG, ((1, 3),), ("turn", ((1, 3),), ((1, 1), (4, 2))), ("bag", ((5, 0, 1),)),
     ("bag", ((1, 2, -2), (4, 0, 2), (5, 0, 1)))),
    (BAG, ((1, 3),), ("turn", ((1, 3),), ((1, 1),)), ("turn", ((1, 3),), ((1, 4),)), None),
    # Tables.
    (TABLE, ((1, 0), (2, 1)), ("table", ((1, ("cut", 0)),)), ("table", ((2, ("mend", ("turn", 1, 0))),)),
     ("table", ((1, ("cut", 0)), (2, ("mend", ("turn", 1, 0)))))),
    (TABLE, ((1, 0), (2, 1)), ("table", ((1, ("cut", 0)),)), ("table", ((1, ("cut", 0)),)),
     ("table", ((1, ("cut", 0)),))),
    (TABLE, ((1, 0), (2, 1)), ("table", ((1, ("cut", 0)),)), ("table", ((1, ("mend", TURN)),)), None),
    (TABLE, ((1, 0), (2, 1)), ("table", ((1, ("cut", 0)),)), ("table", ((1, ("mend", SAME)),)),
     ("table", ((1, ("cut", 0)),))),
    (TABLE, ((1, 0), (2, 1)), ("table", ((3, ("add", 0)),)), ("table", ((3, ("add", 0)),)),
     ("table", ((3, ("add", 0)),))),
    (TABLE, ((1, 0), (2, 1)), ("table", ((3, ("add", 0)),)), ("table", ((3, ("add", 1)),)), None),
    (TABLE, ((1, 0), (2, 1)), ("table", ((3, ("add", 0)),)), ("table", ((3, ("out",)),)),
     ("table", ((3, ("add", 0)),))),
    (TABLE, ((1, 0), (2, 1)), ("table", ((3, ("out",)),)), ("table", ((1, ("mend", ("only", 0))),)), SAME),
    (TABLE, ((1, 0), (2, 1)), ("turn", ((1, 0), (2, 1)), ((1, 1), (3, 0))), ("table", ((4, ("add", 0)),)),
     ("table", ((1, ("mend", TURN)), (2, ("cut", 1)), (3, ("add", 0)), (4, ("add", 0))))),
    (TABLE, ((1, 0), (2, 1)), ("turn", ((1, 0), (2, 1)), ((1, 1),)), ("table", ((2, ("mend", ("turn", 1, 0))),)), None),
    (TABLES, ((1, (0, 0)),), ("table", ((1, ("mend", FLIP)),)), ("table", ((1, ("mend", LIFT)),)),
     ("table", ((1, ("mend", ("record", (TURN, ("turn", 0, 1))))),))),
    (TABLES, ((1, (0, 0)),), ("table", ((1, ("mend", LIFT)),)), ("table", ((1, ("mend", HIGH)),)), None),
    (TABLES, ((1, (0, 0)),), ("table", ((1, ("mend", ("turn", (0, 0), (1, 0)))),)), ("table", ((1, ("mend", LIFT)),)),
     ("table", ((1, ("mend", ("record", (TURN, ("turn", 0, 1))))),))),
    (TABLES, (), ("table", ((1, ("add", (0, 0))),)), ("table", ((2, ("add", (0, 1))),)),
     ("table", ((1, ("add", (0, 0))), (2, ("add", (0, 1)))))),
    # Rows: cuts, and what is done to one item.
    (ROW, V, row(keep(3)), row(keep(1), keep(2)), SAME),
    (ROW, V, row(cut(1), keep(2)), SAME, row(cut(1), keep(2))),
    (ROW, V, row(cut(1), keep(2)), row(keep(2), cut(3)), row(cut(1), keep(1), cut(3))),
    (ROW, V, row(cut(1), keep(2)), row(cut(1), keep(1), cut(3)), row(cut(1), keep(1), cut(3))),
    (ROW, V, row(cut(1), keep(2)), row(mend(("turn", 1, 5)), keep(2)), None),
    (ROW, V, row(cut(1), keep(2)), row(mend(("only", 1)), keep(2)), row(cut(1), keep(2))),
    (ROW, V, row(mend(("turn", 1, 5)), keep(2)), row(mend(("turn", 1, 6)), keep(2)), None),
    (ROW, V, row(mend(("turn", 1, 5)), keep(2)), row(keep(1), mend(("turn", 2, 6)), keep(1)),
     row(mend(("turn", 1, 5)), mend(("turn", 2, 6)), keep(1))),
    (ROW, V, row(mend(SAME), keep(1), mend(("only", 3))), SAME, SAME),
    (ROW, V, row(keep(1), mend(SAME), keep(1), add(4)), SAME, row(keep(3), add(4))),
    (ROW, V, row(cut(1), add(1), keep(2)), SAME, row(cut(1), add(1), keep(2))),
    (ROW, V, row(cut(1), add(1), keep(2)), row(cut(1), keep(2)), row(cut(1), add(1), keep(2))),
    (PAIRS, ((0, 0),), row(mend(FLIP)), row(mend(LIFT)), row(mend(("record", (TURN, ("turn", 0, 1)))))),
    (PAIRS, ((0, 0),), row(mend(LIFT)), row(mend(HIGH)), None),
    (PAIRS, ((0, 0),), row(mend(FLIP)), row(cut((0, 0))), None),
    (PAIRS, ((0, 0),), row(mend(FLIP)), row(mend(FLIP)), row(mend(FLIP))),
    (PAIRS, ((0, 0),), row(mend(("turn", (0, 0), (1, 0)))), row(mend(LIFT)),
     row(mend(("record", (TURN, ("turn", 0, 1)))))),
    # Rows: adds.
    (ROW, V, row(add(9), keep(3)), row(keep(3), add(8)), row(add(9), keep(3), add(8))),
    (ROW, V, row(keep(1), add(9), keep(2)), row(keep(1), add(8), keep(2)), None),
    (ROW, V, row(keep(1), add(9), keep(2)), row(keep(1), add(9), keep(2)), row(keep(1), add(9), keep(2))),
    (ROW, V, row(keep(1), add(9), add(8), keep(2)), row(keep(1), add(9), keep(2)), None),
    (ROW, V, row(keep(1), add(9), add(8), keep(2)), row(keep(1), add(8), add(9), keep(2)), None),
    (ROW, V, row(keep(3), add(9)), row(keep(3), add(8)), None),
    (ROW, V, row(keep(3), add(9)), row(keep(3), add(9)), row(keep(3), add(9))),
    (ROW, (), row(add(9)), row(add(9)), row(add(9))),
    (ROW, (), row(add(9)), row(add(8)), None),
    (ROW, (), row(add(9)), row(), row(add(9))),
    (ROW, V, row(keep(1), add(9), keep(2)), row(keep(1), cut(2), keep(1)), row(keep(1), add(9), cut(2), keep(1))),
    (ROW, V, row(keep(2), add(9), keep(1)), row(keep(1), cut(2), keep(1)), row(keep(1), cut(2), add(9), keep(1))),
    (ROW, V, row(keep(1), add(9), cut(2), keep(1)), row(keep(1), cut(2), add(8), keep(1)),
     row(keep(1), add(9), cut(2), add(8), keep(1))),
    (ROW, V, row(keep(1), add(9), cut(2), keep(1)), row(keep(1), add(8), cut(2), keep(1)), None),
    (ROW, V, row(keep(1), cut(2), add(9), keep(1)), row(keep(2), add(9), cut(3)), row(keep(1), cut(2), add(9), cut(3))),
    (ROW, V, row(keep(1), add(9), keep(2)), row(keep(1), mend(("turn", 2, 5)), keep(1)),
     row(keep(1), add(9), mend(("turn", 2, 5)), keep(1))),
    (ROW, V, row(keep(2), add(9), keep(1)), row(keep(1), mend(("turn", 2, 5)), keep(1)),
     row(keep(1), mend(("turn", 2, 5)), add(9), keep(1))),
    (ROW, V, row(add(9), cut(1), add(8), keep(2), add(7)), row(keep(3), add(7)),
     row(add(9), cut(1), add(8), keep(2), add(7))),
    # Rows: turns beside patches of rows.
    (ROW, V, ("turn", V, (1, 3)), row(keep(3), add(4)), row(keep(1), cut(2), keep(1), add(4))),
    (ROW, V, ("turn", V, (1, 2, 3, 4)), row(cut(1), keep(2)), row(cut(1), keep(2), add(4))),
    (ROW, V, ("turn", V, (1, 2, 3, 4)), ("turn", V, (1, 2, 3, 5)), None),
    (ROW, V, ("turn", V, (2, 3)), ("turn", V, (1, 2)), row(cut(1), keep(1), cut(3))),
    (ROW, V, ("turn", V, V + (4,)), ("turn", V, V + (4,)), row(keep(3), add(4))),
    (ROWS, (V, ()), row(mend(("turn", V, (1, 3))), keep(1)), row(mend(row(keep(3), add(4))), add((5,)), keep(1)),
     row(mend(row(keep(1), cut(2), keep(1), add(4))), add((5,)), keep(1))),
]


class Together(unittest.TestCase):
    def told(self, kind, value, p, q):
        """The outcome, after a look at everything that the document says of it."""
        both = together(kind, value, p, q)
        self.assertEqual(both, together_meant(kind, value, p, q, least), (kind, value, p, q))
        self.assertEqual(both, together(kind, value, q, p))
        for one, two in ((p, q), (q, p)):
            self.assertIs(quarrel(kind, value, one, two), both is None)
            later = rest(kind, value, one, two)
            self.assertEqual(later is None, both is None)
            if both is not None:
                self.assertIsNone(check_patch(kind, later))
                last = outcome(kind, later, outcome(kind, one, value))
                self.assertIsNotNone(last)
                self.assertEqual(last, outcome(kind, both, value), (kind, value, one, two, later))
        if both is not None:
            self.assertIsNone(check_patch(kind, both))
            self.assertIs(fits(kind, both, value), True)
            # The outcome does just the deeds: with either of the two, or by itself, nothing else comes of it.
            self.assertEqual(together(kind, value, both, both), both)
            self.assertEqual(together(kind, value, both, p), both)
            self.assertEqual(together(kind, value, q, both), both)
        return both

    def test_by_hand(self):
        for kind, value, p, q, both in CASES:
            with self.subTest(kind=kind, value=value, p=p, q=q):
                self.assertEqual(together(kind, value, p, q), both)
                self.told(kind, value, p, q)

    def test_by_chance(self):
        chance = Fitting(1)
        for kind in SMALL_KINDS:
            quarrels = 0
            for _ in range(60):
                value = chance.value(kind)
                p, q = chance.fit(kind, value), chance.fit(kind, value)
                quarrels += self.told(kind, value, p, q) is None
            self.assertLess(quarrels, 60)

    def test_with_itself(self):
        chance = Fitting(2)
        for kind in SMALL_KINDS:
            for _ in range(30):
                value = chance.value(kind)
                p = chance.fit(kind, value)
                both = self.told(kind, value, p, p)
                self.assertEqual(outcome(kind, both, value), outcome(kind, p, value))
                self.assertEqual(outcome(kind, rest(kind, value, p, p), outcome(kind, p, value)),
                                 outcome(kind, p, value))

    def test_with_one_that_does_nothing(self):
        chance = Fitting(3)
        for kind in SMALL_KINDS:
            for _ in range(30):
                value = chance.value(kind)
                p = chance.fit(kind, value)
                alone = self.told(kind, value, p, p)
                for nothing in (SAME, ("only", value)):
                    self.assertEqual(self.told(kind, value, p, nothing), alone)
                    self.assertEqual(outcome(kind, rest(kind, value, nothing, p), value), outcome(kind, p, value))
                self.assertEqual(together(kind, value, SAME, ("only", value)), SAME)

    def test_three_in_every_order(self):
        chance = Fitting(4)
        for kind in SMALL_KINDS:
            for _ in range(60):
                value = chance.value(kind)
                three = [chance.fit(kind, value) for _ in range(3)]
                pairs = [(three[0], three[1]), (three[0], three[2]), (three[1], three[2])]
                if not any(quarrel(kind, value, p, q) for p, q in pairs):
                    self.three(kind, value, three)

    def three(self, kind, value, three):
        made = set()
        for p, q, r in permutations(three):
            both = together(kind, value, p, q)
            self.assertIs(quarrel(kind, value, both, r), False)
            self.assertIs(quarrel(kind, value, r, both), False)
            made.add(together(kind, value, both, r))
            made.add(together(kind, value, r, both))
        self.assertEqual(len(made), 1, (kind, value, three))

    def test_alike_patches_may_do_unlike_deeds(self):
        kept, renewed = row(mend(("only", 1)), keep(2)), row(cut(1), add(1), keep(2))
        self.assertIs(alike(ROW, kept, renewed), True)
        self.assertEqual(together(ROW, V, kept, kept), SAME)
        self.assertEqual(together(ROW, V, renewed, renewed), renewed)
        later = row(mend(("turn", 1, 5)), keep(2))
        self.assertIs(quarrel(ROW, V, kept, later), False)
        self.assertIs(quarrel(ROW, V, renewed, later), True)

    def test_edits_at_unlike_places_never_quarrel(self):
        value = tuple(range(10)) * 6
        edits = []
        for at in range(0, 60, 3):
            item = value[at]
            for parts in ([add(item), keep(1)], [cut(item)], [mend(("turn", item, (item + 1) % 10))]):
                before, after = ([keep(at)] if at else []), [keep(59 - at)] if at < 59 else []
                edits.append((at, ("row", tuple(before + parts + after))))
        for at, p in edits:
            for other, q in edits[::7]:
                if at != other:
                    self.assertIsNotNone(self.told(ROW, value, p, q))


class Rest(unittest.TestCase):
    def test_by_hand(self):
        cases = [
            (TEN, 3, ("turn", 3, 4), SAME, SAME),
            (TEN, 3, SAME, ("turn", 3, 4), ("turn", 3, 4)),
            (TEN, 3, ("turn", 3, 4), ("turn", 3, 4), SAME),
            (TEN, 3, ("turn", 3, 4), ("turn", 3, 5), None),
            (PAIR, (0, 0), FLIP, LIFT, LIFT),
            (PAIR, (0, 0), FLIP, ("turn", (0, 0), (1, 1)), LIFT),
            (SET, (1, 2), ("set", ((1, "cut"),)), ("set", ((1, "cut"), (3, "add"))), ("set", ((3, "add"),))),
            (BAG, ((1, 3),), ("bag", ((1, 1, -1),)), ("bag", ((1, 1, -1), (2, 0, 1))), ("bag", ((2, 0, 1),))),
            (TABLE, ((1, 0),), ("table", ((1, ("cut", 0)),)), ("table", ((1, ("cut", 0)), (2, ("add", 1)))),
             ("table", ((2, ("add", 1)),))),
            (ROW, V, row(cut(1), keep(2)), row(keep(3), add(9)), row(keep(2), add(9))),
            (ROW, V, row(add(9), keep(3)), row(cut(1), keep(2)), row(keep(1), cut(1), keep(2))),
            (ROW, V, row(cut(1), keep(2)), row(add(9), keep(3)), row(add(9), keep(2))),
            (ROW, V, row(cut(1), keep(2)), row(cut(1), keep(2)), SAME),
            (PAIRS, ((0, 0), (1, 1)), row(mend(FLIP), cut((1, 1))), row(add((0, 1)), mend(LIFT), keep(1)),
             row(add((0, 1)), mend(LIFT))),
        ]
        for kind, value, p, q, later in cases:
            with self.subTest(kind=kind, p=p, q=q):
                self.assertEqual(rest(kind, value, p, q), later)


class Refused(unittest.TestCase):
    def all_refuse(self, error, *given):
        for function in (quarrel, together, rest):
            with self.subTest(function=function.__name__, given=given), self.assertRaises(error):
                function(*given)

    def test_unfit(self):
        self.all_refuse(Unfit, TEN, 3, ("only", 4), SAME)
        self.all_refuse(Unfit, TEN, 3, SAME, ("turn", 4, 3))
        self.all_refuse(Unfit, TEN, 3, ("only", 4), ("only", 4))
        self.all_refuse(Unfit, ROW, V, row(keep(2)), SAME)
        self.all_refuse(Unfit, ROW, V, SAME, row(keep(2), cut(4)))
        self.all_refuse(Unfit, PAIRS, ((0, 0),), row(mend(("record", (SAME, ("only", 1))))), SAME)
        self.all_refuse(Unfit, EITHER, (0, 0), ("choice", 1, SAME), SAME)
        # Both would do the same if they fitted.
        self.all_refuse(Unfit, SET, (1,), ("set", ((1, "add"),)), ("set", ((1, "add"),)))
        self.all_refuse(Unfit, BAG, (), ("bag", ((1, 1, -1),)), SAME)
        self.all_refuse(Unfit, TABLE, (), SAME, ("table", ((1, ("mend", SAME)),)))

    def test_unfit_stands_behind_all(self):
        self.all_refuse(BadPatch, TEN, 3, ("only", 4), ("only", 10))
        self.all_refuse(BadPatch, TEN, 3, ("only", 10), ("only", 4))
        self.all_refuse(BadValue, TEN, 10, ("only", 10), ("only", 10))
        self.all_refuse(BadKind, ("number", 1), 10, ("only", 10), ("only", 10))


class Edges(unittest.TestCase):
    def test_may_be_beyond_what_is_handed_in(self):
        p, q = ("bag", ((0, 0, 10000),)), ("bag", ((1, 0, 10000),))
        self.assertEqual(together(BAG, (), p, q), ("bag", ((0, 0, 10000), (1, 0, 10000))))
        self.assertEqual(rest(BAG, (), p, q), q)
        value = (5,) * 300
        p, q = row(*(add(1),) * 900, keep(300)), row(keep(300), *(add(2),) * 900)
        self.assertEqual(together(ROW, value, p, q), row(*(add(1),) * 900, keep(300), *(add(2),) * 900))
        self.assertEqual(rest(ROW, value, p, q), row(keep(1200), *(add(2),) * 900))

    def test_counts_that_rise_to_the_edge(self):
        value = ((0, 399),)
        self.assertEqual(together(BAG, value, ("bag", ((0, 399, -399),)), SAME), ("bag", ((0, 399, -399),)))
        self.assertEqual(together(BAG, value, ("turn", value, ((0, 1),)), SAME), ("bag", ((0, 398, -398),)))


if __name__ == "__main__":
    unittest.main()
