import random
import unittest

from corrigenda.least import bound, distance, worth
from tests.makers import (
    ANYTHING, BAG, BIT, EITHER, PAIR, ROW, SET, SMALL_KINDS, TABLE, TEN, doubled, values_of,
)
from tests.search import far, heavy

ALL = ("all",)
NONE = ("none",)
ROWS = ("row", ROW)
PAIRS = ("row", PAIR)

# A kind, two values, a right paper, and its worth.
RIGHT = [
    (TEN, 3, 4, ALL, 2),
    (TEN, 3, 3, ALL, 0),
    (TEN, 3, 4, NONE, 0),
    (PAIR, (0, 1), (1, 2), ("record", (ALL, ALL)), 4),
    (PAIR, (0, 1), (1, 2), ("record", (NONE, ALL)), 2),
    (PAIR, (0, 1), (0, 2), ("record", (ALL, ALL)), 2),
    (PAIR, (0, 1), (1, 2), NONE, 0),
    (EITHER, (0, 1), (0, 0), ("choice", ALL), 2),
    (EITHER, (0, 1), (0, 0), ("choice", NONE), 0),
    (EITHER, (0, 1), (0, 1), ("choice", ALL), 0),
    (EITHER, (0, 1), (1, (2,)), ALL, 5),
    (EITHER, (0, 1), (1, (2,)), NONE, 0),
    (EITHER, (1, ()), (1, ()), ("choice", ("row", ((0,),), ())), 0),
    (ROW, (), (), ("row", ((0,),), ()), 0),
    (ROW, (), (), NONE, 0),
    (ROW, (1,), (), ("row", ((0,), (1,)), ((),)), 1),
    (ROW, (1,), (), ("row", ((0,), (0,)), ((),)), 0),
    (ROW, (), (1, 2), ("row", ((0, 1, 2),), ()), 2),
    (ROW, (), (1, 2), ("row", ((0, 0, 1),), ()), 1),
    (ROW, (1,), (2,), ("row", ((0, 1), (1, 2)), ((ALL,),)), 2),
    (ROW, (1,), (2,), ("row", ((0, 1), (1, 1)), ((ALL,),)), 1),
    (ROW, (1,), (2,), ("row", ((0, 1), (0, 1)), ((ALL,),)), 1),
    (ROW, (1,), (2,), ("row", ((0, 0), (0, 0)), ((NONE,),)), 0),
    (ROW, (1,), (1,), ("row", ((0, 1), (1, 0)), ((ALL,),)), 0),
    (PAIRS, ((0, 0),), ((0, 1),), ("row", ((0, 3), (3, 2)), ((("record", (ALL, ALL)),),)), 2),
    (PAIRS, ((0, 0),), ((0, 1),), ("row", ((0, 3), (3, 0)), ((("record", (ALL, NONE)),),)), 0),
    (SET, (1, 2), (2, 3), ("set",), 2),
    (SET, (1, 2), (1, 2), ("set",), 0),
    (SET, (1, 2), (2, 3), NONE, 0),
    (BAG, ((1, 3), (2, 1)), ((1, 1), (3, 4)), ("bag",), 7),
    (BAG, ((1, 3),), (), NONE, 0),
    (TABLE, ((0, 1), (1, 1)), ((0, 1), (1, 0)), ("table", (ALL, ALL)), 2),
    (TABLE, ((0, 1), (1, 1)), ((0, 1), (1, 0)), ("table", (ALL, NONE)), 0),
    (TABLE, ((0, 1), (1, 1)), ((1, 0), (2, 0)), ("table", (ALL,)), 6),
    (TABLE, ((0, 1), (1, 1)), ((1, 0), (2, 0)), ("table", (NONE,)), 4),
    (TABLE, ((0, 1),), ((2, 0),), ("table", ()), 4),
    (TABLE, ((0, 1),), ((2, 0),), NONE, 0),
]

# A kind, two values, and papers that are none, or not right.
WRONG = [
    (TEN, 3, 4, [("number",), ("all", 1), ("none", 0), ("all", ()), ("record", ()), ("row", ((0,),), ()), ("set",),
                 ("bag",), ("table", ()), ("choice", ALL), 2, ("All",), (ALL,)]),
    (PAIR, (0, 1), (1, 2), [ALL, ("record",), ("record", ()), ("record", (ALL,)), ("record", (ALL, ALL, ALL)),
                            ("record", ALL), ("record", ALL, ALL), ("record", (ALL, ("set",))), ("record", None),
                            ("record", (ALL, None)), ("record", (ALL, 0)), ("record", "ab"),
                            ("record", (("all", 0), ALL))]),
    (EITHER, (0, 1), (0, 0), [ALL, ("choice",), ("choice", ALL, ALL), ("choice", 0, ALL), ("choice", (ALL,)),
                              ("choice", None), ("choice", ("choice", ALL)), ("record", (ALL, ALL))]),
    (EITHER, (1, (0,)), (1, (0,)), [ALL, ("choice", ALL), ("choice", ("row", ((0,),), ()))]),
    (EITHER, (0, 1), (1, (2,)), [("choice", ALL), ("choice", NONE), ("choice",), ("all", ALL)]),
    (ROW, (), (), [ALL, ("row",), ("row", ((0,),)), ("row", ((1,),), ()), ("row", ((),), ()), ("row", (), ()),
                   ("row", ((0,), (0,)), ()), ("row", ((0,),), ((),)), ("row", ((0, 0),), ()), ("row", ((False,),), ()),
                   ("row", ((0,),), (), ()), ("row", ((None,),), ()), ("row", (("0",),), ()), ("row", (((),),), ()),
                   ("row", ((0,),), None), ("row", None, ()), ("row", 0, ()), ("row", "0", ()), ("row", ((-1,),), ()),
                   ("row", (0,), ()), ("row", ((0,),), 0)]),
    (ROW, (1,), (2,), [("row", ((0, 1), (1, 3)), ((ALL,),)), ("row", ((0, 2), (1, 2)), ((ALL,),)),
                       ("row", ((0, 1), (2, 2)), ((ALL,),)), ("row", ((1, 1), (1, 2)), ((ALL,),)),
                       ("row", ((0, 1), (1, 2)), ((NONE,),)), ("row", ((0, 1), (1, 1)), ((NONE,),)),
                       ("row", ((0, 0), (1, 2)), ((ALL,),)), ("row", ((0, 1), (0, 2)), ((ALL,),)),
                       ("row", ((0, -1), (1, 0)), ((ALL,),)), ("row", ((0, 1), (-1, 0)), ((ALL,),)),
                       ("row", ((0, 1), (1, -1)), ((ALL,),)), ("row", ((0, True), (1, 2)), ((ALL,),)),
                       ("row", ((0, 1), (True, 2)), ((ALL,),)), ("row", ((False, 1), (1, 2)), ((ALL,),)),
                       ("row", ((0, 1), (1, None)), ((ALL,),)), ("row", ((0, 1), (1, "2")), ((ALL,),)),
                       ("row", ((0, 1), (1, (2,))), ((ALL,),)), ("row", ((0, 1), (1, 2), (1, 2)), ((ALL,),)),
                       ("row", ((0, 1),), ((ALL,),)), ("row", ((0, 1), (1,)), ((ALL,),)),
                       ("row", ((0, 1, 1), (1, 2, 2)), ((ALL,),)), ("row", ((0,), (1, 2)), ((ALL,),)),
                       ("row", ((0, 1), (1, 2)), (ALL,)), ("row", ((0, 1), (1, 2)), ((ALL, ALL),)),
                       ("row", ((0, 1), (1, 2)), ((),)), ("row", ((0, 1), (1, 2)), ()),
                       ("row", ((0, 1), (1, 2)), ((ALL,), (ALL,))), ("row", ((0, 1), (1, 2)), ((("set",),),)),
                       ("row", ((0, 1), (1, 2)), ((None,),)), ("row", ((0, 1), (1, 2)), (None,)),
                       ("row", ((0, 0), (0, 0)), ((("set",),),)), ("row", ((0, 0), (0, 0)), ((("none", 0),),)),
                       ("row", ((0, 1), (1, 10 ** 60)), ((ALL,),)), ("row", ((0, 1), (1, 2))),
                       ("row", ((10 ** 60, 0), (0, 0)), ((ALL,),)), ("row", ((0, 1), (1, 2)), ((ALL,),), ())]),
    (SET, (1, 2), (2, 3), [ALL, ("set", ()), ("bag",), ("set", 2), ("row", ((0,),), ()), ("table", ())]),
    (BAG, ((1, 3),), (), [ALL, ("bag", ()), ("set",), ("bag", 3), ("table", ())]),
    (TABLE, ((0, 1), (1, 1)), ((1, 0), (2, 0)), [ALL, ("table",), ("table", ()), ("table", (ALL, ALL)), ("table", ALL),
                                                 ("table", (("set",),)), ("table", (None,)), ("table", None),
                                                 ("table", (ALL,), ()), ("set",), ("bag",), ("record", (ALL,))]),
]


def worth_meant(kind, v, w, paper):
    """The worth by [3.2], a second time; an AssertionError for a paper that is none or not right."""
    assert isinstance(paper, tuple) and paper
    word = paper[0]
    if paper == NONE:
        return 0
    if kind[0] == "number" or kind[0] == "choice" and v[0] != w[0]:
        assert paper == ALL
        return heavy(kind, v) + heavy(kind, w) if v != w else 0
    assert word == kind[0]
    if word == "record":
        assert len(paper) == 2 and isinstance(paper[1], tuple) and len(paper[1]) == len(v)
        return sum(worth_meant(*each) for each in zip(kind[1], v, w, paper[1]))
    if word == "choice":
        assert len(paper) == 2
        return worth_meant(kind[1][v[0]], v[1], w[1], paper[1])
    if word in ("set", "bag"):
        assert len(paper) == 1
        return far(kind, v, w)
    if word == "table":
        both = sorted({key for key, _ in v} & {key for key, _ in w})
        assert len(paper) == 2 and isinstance(paper[1], tuple) and len(paper[1]) == len(both)
        inside = sum(worth_meant(kind[2], dict(v)[key], dict(w)[key], each) for key, each in zip(both, paper[1]))
        return inside + sum(heavy(kind[1], key) + heavy(kind[2], entry) for key, entry in v + w if key not in both)
    assert len(paper) == 3
    return row_worth_meant(kind[1], v, w, paper[1], paper[2])


def row_worth_meant(kind, v, w, heights, bounds):
    for lines, many, wide in ((heights, len(v) + 1, len(w) + 1), (bounds, len(v), len(w))):
        assert isinstance(lines, tuple) and len(lines) == many
        assert all(isinstance(line, tuple) and len(line) == wide for line in lines)
    assert all(number.__class__ is int and number >= 0 for line in heights for number in line)
    assert heights[0][0] == 0
    for x in range(len(v) + 1):
        for y in range(len(w) + 1):
            if x:
                assert heights[x][y] <= heights[x - 1][y] + heavy(kind, v[x - 1])
            if y:
                assert heights[x][y] <= heights[x][y - 1] + heavy(kind, w[y - 1])
            if x and y:
                across = worth_meant(kind, v[x - 1], w[y - 1], bounds[x - 1][y - 1])
                assert heights[x][y] <= heights[x - 1][y - 1] + across
    return heights[-1][-1]


class Spoiler:
    """Writes papers a little otherwise, by chance."""

    def __init__(self, seed):
        self.random = random.Random(seed)

    def spoilt(self, thing):
        """The paper, or any part of it, with something else in one place."""
        if isinstance(thing, tuple) and thing and self.random.randrange(8):
            at = self.random.randrange(len(thing))
            return thing[:at] + (self.spoilt(thing[at]),) + thing[at + 1:]
        if isinstance(thing, int) and self.random.randrange(5):
            return max(0, thing + self.random.choice([-2, -1, -1, 1]))
        return self.random.choice([NONE, NONE, ALL, ("set",), ("bag",), (), 0, True, None, "all", thing])


class Bounds(unittest.TestCase):
    def test_its_worth_is_the_distance(self):
        chance = random.Random(1)
        for kind in SMALL_KINDS + [PAIRS]:
            values = [value for value, _ in values_of(kind, 6)][:400]
            for _ in range(40):
                v, w = chance.choice(values), chance.choice(values)
                paper = bound(kind, v, w)
                self.assertEqual(worth(kind, v, w, paper), distance(kind, v, w))
                self.assertEqual(worth_meant(kind, v, w, paper), distance(kind, v, w))
                self.assertEqual(worth(kind, v, v, bound(kind, v, v)), 0)
                self.assertEqual(worth(kind, v, w, NONE), 0)

    def test_of_long_rows(self):
        chance = random.Random(2)
        for many in (10, 40, 90):
            v, w = (tuple(chance.randrange(4) for _ in range(many)) for _ in range(2))
            self.assertEqual(worth(ROW, v, w, bound(ROW, v, w)), far(ROW, v, w))
        lengths = [[chance.randrange(9) for _ in range(30)] for _ in range(2)]
        v, w = (tuple(tuple(chance.randrange(4) for _ in range(many)) for many in each) for each in lengths)
        self.assertEqual(worth(ROWS, v, w, bound(ROWS, v, w)), far(ROWS, v, w))

    def test_no_right_paper_is_worth_more(self):
        spoiler = Spoiler(3)
        for kind in SMALL_KINDS + [PAIRS]:
            values = [value for value, _ in values_of(kind, 6)][:400]
            for _ in range(40):
                v, w = spoiler.random.choice(values), spoiler.random.choice(values)
                paper = bound(kind, v, w)
                for _ in range(6):
                    paper = spoiler.spoilt(paper)
                    try:
                        meant = worth_meant(kind, v, w, paper)
                    except AssertionError:
                        meant = None
                    told = worth(kind, v, w, paper)
                    self.assertEqual(told, meant, (kind, v, w, paper))
                    self.assertIsNot(told, True)
                    if told is not None:
                        self.assertLessEqual(told, distance(kind, v, w))


class Worth(unittest.TestCase):
    def test_right_papers(self):
        for kind, v, w, paper, many in RIGHT:
            with self.subTest(kind=kind, v=v, w=w, paper=paper):
                self.assertEqual(worth(kind, v, w, paper), many)
                self.assertLessEqual(many, distance(kind, v, w))

    def test_wrong_papers(self):
        for kind, v, w, papers in WRONG:
            for paper in papers:
                with self.subTest(kind=kind, v=v, w=w, paper=paper):
                    self.assertIsNone(worth(kind, v, w, paper))

    def test_smaller_heights(self):
        chance = random.Random(4)
        for _ in range(20):
            v, w = (tuple(chance.randrange(4) for _ in range(9)) for _ in range(2))
            _, heights, bounds = bound(ROW, v, w)
            half = tuple(tuple(height // 2 for height in line) for line in heights)
            self.assertEqual(worth(ROW, v, w, ("row", half, bounds)), distance(ROW, v, w) // 2)
            flat = tuple(tuple(0 for _ in line) for line in heights)
            self.assertEqual(worth(ROW, v, w, ("row", flat, bounds)), 0)
            self.assertEqual(worth(ROW, v, w, ("row", flat, ((NONE,) * 9,) * 9)), 0)
            if v != w:
                twice = tuple(tuple(2 * height for height in line) for line in heights)
                self.assertIsNone(worth(ROW, v, w, ("row", twice, bounds)))

    def test_a_bound_that_is_not_needed_must_be_right(self):
        heights = ((0, 0, 0), (0, 0, 0), (0, 0, 0))
        for x in range(2):
            for y in range(2):
                bounds = [[ALL, ALL], [ALL, ALL]]
                self.assertEqual(worth(ROW, (1, 2), (3, 4), ("row", heights, tuple(map(tuple, bounds)))), 0)
                bounds[x][y] = ("set",)
                self.assertIsNone(worth(ROW, (1, 2), (3, 4), ("row", heights, tuple(map(tuple, bounds)))))

    def test_papers_of_other_values(self):
        self.assertIsNone(worth(ROW, (1, 2), (3,), bound(ROW, (1,), (3,))))
        self.assertIsNone(worth(ROW, (1,), (3, 3), bound(ROW, (1,), (3,))))
        self.assertIsNone(worth(ROW, (1,), (1,), bound(ROW, (1,), (3,))))
        self.assertIsNone(worth(TABLE, ((0, 0),), ((1, 0),), bound(TABLE, ((0, 0),), ((0, 1),))))
        self.assertIsNone(worth(EITHER, (0, 0), (1, ()), bound(EITHER, (0, 0), (0, 1))))
        self.assertIsNone(worth(EITHER, (0, 0), (0, 1), bound(EITHER, (0, 0), (1, ()))))
        self.assertEqual(worth(SET, (1,), (2, 3), bound(SET, (), ())), 3)

    def test_papers_of_another_kind(self):
        papers = [(kind, paper) for kind, _, _, paper, _ in RIGHT if paper != NONE]
        for kind, v, w, _, _ in RIGHT:
            for other, paper in papers:
                told = worth(kind, v, w, paper)
                if other[0] != kind[0] and paper != ALL:
                    self.assertIsNone(told)

    def test_any_paper_is_looked_at(self):
        things = ANYTHING + [doubled(0), doubled("row"), doubled(ALL), ("row", doubled(0, 59), doubled(0, 59)),
                             ("row", doubled(0, 59), ()), ("record", doubled(ALL, 59)), ("table", doubled(NONE, 59)),
                             ("choice", doubled(0, 59)), (doubled(0, 59),), (doubled("all", 59),),
                             ("row", ((0, 1), (1, 2)), ((doubled(ALL, 50),),)),
                             ("row", ((0, 1), (1, doubled(0, 50))), ((ALL,),))]
        deep = NONE
        for _ in range(58):
            deep = (deep,)
        for thing in things + [deep, ("choice", deep), "none", "all"]:
            for kind, v, w, _, _ in RIGHT:
                self.assertIsNone(worth(kind, v, w, thing), kind)

    def test_one_tuple_in_very_many_places(self):
        kind = ("row", ("row", ("row", ("row", BIT))))
        value = ((((0,) * 90,), ((1,) * 90,)),)
        paper = bound(kind, value, value)
        self.assertEqual(worth(kind, value, value, paper), 0)
        paper = ("row", ((0,) * 400,) * 400, ((ALL,) * 399,) * 399)
        self.assertEqual(worth(("row", BIT), (0,) * 399, (1,) * 399, paper), 0)


if __name__ == "__main__":
    unittest.main()
