import inspect
import unittest

from corrigenda import kind, patch
from corrigenda.errors import BadKind, BadPatch, BadValue, CorrigendaError, Unfit
from tests.makers import ANYTHING, BIT, doubled

LISTED = [
    (kind, "check_kind", ["kind"]),
    (kind, "check_value", ["kind", "value"]),
    (kind, "weight", ["kind", "value"]),
    (kind, "few", ["kind", "most"]),
    (patch, "check_patch", ["kind", "patch"]),
    (patch, "cost", ["kind", "patch"]),
    (patch, "fits", ["kind", "patch", "value"]),
    (patch, "made", ["kind", "patch", "value"]),
    (patch, "turned", ["kind", "patch"]),
    (patch, "sample", ["kind", "patch"]),
]
GOOD = {"kind": BIT, "value": 1, "patch": ("only", 0), "most": 2000}
REFUSED = {"kind": BadKind, "value": BadValue, "patch": BadPatch}


class Interface(unittest.TestCase):
    def test_every_name_is_defined_in_its_file(self):
        for module, name, arguments in LISTED:
            function = getattr(module, name)
            self.assertEqual(function.__module__, module.__name__)
            self.assertEqual(list(inspect.signature(function).parameters), arguments)

    def test_checks_give_none(self):
        self.assertIsNone(kind.check_kind(BIT))
        self.assertIsNone(kind.check_value(BIT, 1))
        self.assertIsNone(patch.check_patch(BIT, ("same",)))

    def test_refused_in_the_order_of_the_arguments(self):
        for module, name, arguments in LISTED:
            checked = [each for each in arguments if each in REFUSED]
            for at, first in enumerate(checked):
                for bad in (None, doubled(0)):
                    given = dict(GOOD)
                    given.update({each: bad for each in checked[at:]})
                    with self.subTest(name=name, first=first), self.assertRaises(REFUSED[first]):
                        getattr(module, name)(*[given[each] for each in arguments])

    def test_unfit_stands_behind_all(self):
        with self.assertRaises(Unfit):
            patch.made(BIT, ("only", 0), 1)
        with self.assertRaises(BadValue):
            patch.made(BIT, ("only", 0), 2)
        with self.assertRaises(BadPatch):
            patch.made(BIT, ("only", 2), 2)
        with self.assertRaises(BadKind):
            patch.made(("number", 1), ("only", 0), 1)

    def test_anything_is_answered_or_refused(self):
        kinds = [("record", (BIT, BIT)), ("choice", (BIT, BIT)), ("row", BIT), ("set", BIT), ("bag", BIT),
                 ("table", BIT, BIT), BIT]
        things = ANYTHING + [doubled(0), doubled("row"), doubled(BIT), ("row", doubled(0, 59))]
        for one in kinds + things:
            for thing in things:
                for function, given in ((kind.check_value, (one, thing)), (patch.sample, (one, thing)),
                                        (patch.fits, (one, thing, thing)), (patch.made, (one, ("same",), thing))):
                    try:
                        function(*given)
                    except CorrigendaError:
                        pass


if __name__ == "__main__":
    unittest.main()
