import unittest

from corrigenda import errors
from corrigenda.errors import BadKind, BadPatch, BadValue, CorrigendaError, Unfit
from corrigenda.kind import check_kind, check_value
from corrigenda.patch import check_patch, made

FOUR = [BadKind, BadValue, BadPatch, Unfit]
BIT = ("number", 2)


class Errors(unittest.TestCase):
    def test_all_are_value_errors(self):
        self.assertEqual(CorrigendaError.__bases__, (ValueError,))
        for error in FOUR:
            self.assertEqual(error.__bases__, (CorrigendaError,))
            self.assertIsInstance(error(), ValueError)

    def test_none_is_another(self):
        for error in FOUR:
            for other in FOUR:
                self.assertEqual(issubclass(error, other), error is other)

    def test_they_stand_in_their_file(self):
        for error in FOUR + [CorrigendaError]:
            self.assertEqual(error.__module__, "corrigenda.errors")
            self.assertIs(getattr(errors, error.__name__), error)

    def test_they_have_no_text(self):
        for error in FOUR + [CorrigendaError]:
            self.assertEqual(str(error()), "")
            self.assertEqual(error().args, ())

    def test_what_is_raised_has_no_text(self):
        calls = [
            (BadKind, check_kind, (None,)),
            (BadValue, check_value, (BIT, 2)),
            (BadPatch, check_patch, (BIT, None)),
            (Unfit, made, (BIT, ("only", 1), 0)),
        ]
        for error, function, given in calls:
            with self.assertRaises(CorrigendaError) as caught:
                function(*given)
            self.assertIs(caught.exception.__class__, error)
            self.assertEqual(str(caught.exception), "")


if __name__ == "__main__":
    unittest.main()
