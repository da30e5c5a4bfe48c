import inspect
import unittest

from corrigenda import behind, kind, least, patch, together
from corrigenda.errors import BadKind, BadPatch, BadValue, CorrigendaError, Unfit
from tests.makers import ANYTHING, BIT, doubled

LISTED = [
    (kind, "check_kind", ["kind"]),
    (kind, "check_value", ["kind", "value"]),
    (kind, "weight", ["kind", "value"]),
    (kind, "few", ["kind", "most"]),
    (patch, "check_patch", ["kind", "patch"]),
    (patch, "cost", ["kind", "patch"]),
    (patch, "fits", ["kind", "patch", "value"]),
    (patch, "made", ["kind", "patch", "value"]),
    (patch, "turned", ["kind", "patch"]),
    (patch, "sample", ["kind", "patch"]),
    (least, "distance", ["kind", "v", "w"]),
    (least, "least", ["kind", "v", "w"]),
    (least, "bound", ["kind", "v", "w"]),
    (least, "worth", ["kind", "v", "w", "paper"]),
    (behind, "behind", ["kind", "p", "q"]),
    (behind, "normal", ["kind", "patch"]),
    (behind, "alike", ["kind", "p", "q"]),
    (behind, "apart", ["kind", "p", "q"]),
    (together, "quarrel", ["kind", "v", "p", "q"]),
    (together, "together", ["kind", "v", "p", "q"]),
    (together, "rest", ["kind", "v", "p", "q"]),
]
# The patches do not fit the values, so that Unfit is told wherever nothing is refused ahead of it.
GOOD = {"kind": BIT, "value": 1, "patch": ("only", 0), "most": 2000, "v": 1, "w": 0, "p": ("only", 0), "q": ("only", 0),
        "paper": ("all",)}
REFUSED = {"kind": BadKind, "value": BadValue, "patch": BadPatch, "v": BadValue, "w": BadValue, "p": BadPatch,
           "q": BadPatch}


class Interface(unittest.TestCase):
    def test_every_name_is_defined_in_its_file(self):
        for module, name, arguments in LISTED:
            function = getattr(module, name)
            self.assertEqual(function.__module__, module.__name__)
            self.assertEqual(list(inspect.signature(function).parameters), arguments)

    def test_checks_give_none(self):
        self.assertIsNone(kind.check_kind(BIT))
        self.assertIsNone(kind.check_value(BIT, 1))
        self.assertIsNone(patch.check_patch(BIT, ("same",)))

    def test_refused_in_the_order_of_the_arguments(self):
        for module, name, arguments in LISTED:
            checked = [each for each in arguments if each in REFUSED]
            for at, first in enumerate(checked):
                for bad in (None, doubled(0)):
                    given = dict(GOOD)
                    given.update({each: bad for each in checked[at:]})
                    with self.subTest(name=name, first=first), self.assertRaises(REFUSED[first]):
                        getattr(module, name)(*[given[each] for each in arguments])

    def test_each_alone_is_refused(self):
        bad = ANYTHING + [doubled(0), doubled("row"), ("row", doubled(0, 59)), ("only", doubled(0, 59)), (("same",),)]
        for module, name, arguments in LISTED:
            for one in [each for each in arguments if each in REFUSED]:
                for thing in bad:
                    if thing in (BIT, ("same",)) or thing.__class__ is int and thing in (0, 1):
                        continue
                    given = dict(GOOD)
                    given[one] = thing
                    with self.subTest(name=name, one=one), self.assertRaises(REFUSED[one]):
                        getattr(module, name)(*[given[each] for each in arguments])

    def test_values_and_patches_of_another_kind_are_refused(self):
        row = ("row", BIT)
        good = {"kind": row, "value": (1,), "patch": ("row", (("keep", 1),)), "most": 2000, "v": (1,), "w": (0,),
                "p": ("row", (("keep", 1),)), "q": ("row", (("keep", 1),)), "paper": ("none",)}
        bad = {BadValue: [1, (2,), ((1,),), (True,), (0,) * 400],
               BadPatch: [("set", ()), ("only", 1), ("row", (("keep", 0),)), ("row", (("add", 0),) * 1000),
                          ("row", (("keep", 10001),)), ("only", (0,) * 400), ("turn", (0,), (0,))]}
        for module, name, arguments in LISTED:
            for one in arguments:
                for thing in bad.get(REFUSED.get(one), []):
                    given = dict(good)
                    given[one] = thing
                    with self.subTest(name=name, one=one), self.assertRaises(REFUSED[one]):
                        getattr(module, name)(*[given[each] for each in arguments])

    def test_what_is_handed_in_stays(self):
        for module, name, arguments in LISTED:
            given = [GOOD[each] for each in arguments]
            try:
                getattr(module, name)(*given)
            except Unfit:
                self.assertIn(name, ("made", "quarrel", "together", "rest"))
            self.assertEqual(given, [GOOD[each] for each in arguments])

    def test_unfit_stands_behind_all(self):
        with self.assertRaises(Unfit):
            patch.made(BIT, ("only", 0), 1)
        with self.assertRaises(BadValue):
            patch.made(BIT, ("only", 0), 2)
        with self.assertRaises(BadPatch):
            patch.made(BIT, ("only", 2), 2)
        with self.assertRaises(BadKind):
            patch.made(("number", 1), ("only", 0), 1)
        for function in (together.quarrel, together.together, together.rest):
            for p, q in ((("only", 0), ("same",)), (("same",), ("only", 0)), (("only", 0), ("only", 0))):
                with self.assertRaises(Unfit):
                    function(BIT, 1, p, q)
                with self.assertRaises(BadValue):
                    function(BIT, 2, p, q)
                with self.assertRaises(BadPatch):
                    function(BIT, 1, p, ("only", 2))
                with self.assertRaises(BadPatch):
                    function(BIT, 1, ("only", 2), q)
                with self.assertRaises(BadKind):
                    function(("number", 1), 1, p, q)

    def test_anything_is_answered_or_refused(self):
        kinds = [("record", (BIT, BIT)), ("choice", (BIT, BIT)), ("row", BIT), ("set", BIT), ("bag", BIT),
                 ("table", BIT, BIT), BIT]
        things = ANYTHING + [doubled(0), doubled("row"), doubled(BIT), ("row", doubled(0, 59))]
        for one in kinds + things:
            for thing in things:
                for function, given in ((kind.check_value, (one, thing)), (patch.sample, (one, thing)),
                                        (patch.fits, (one, thing, thing)), (patch.made, (one, ("same",), thing)),
                                        (least.least, (one, thing, thing)), (least.bound, (one, thing, thing)),
                                        (least.worth, (one, thing, thing, thing)), (behind.normal, (one, thing)),
                                        (behind.behind, (one, thing, thing)), (behind.apart, (one, ("same",), thing)),
                                        (together.together, (one, thing, ("same",), thing)),
                                        (together.rest, (one, thing, thing, ("same",)))):
                    try:
                        function(*given)
                    except CorrigendaError:
                        pass


if __name__ == "__main__":
    unittest.main()
