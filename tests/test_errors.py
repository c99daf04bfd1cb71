"""Promise 1: the names under which refusals are taken."""

import unittest

from stuckbell import errors
from stuckbell.errors import BadWaits, BellError, NoHand, NoLetter
from tests.kit import REFUSALS, refusal


def refuse(error):
    raise error


class TestErrors(unittest.TestCase):
    def test_any_refusal_is_a_value_error(self):
        self.assertTrue(issubclass(BellError, ValueError))
        self.assertEqual(BellError.__bases__, (ValueError,))

    def test_the_others_stand_straight_under_bell_error(self):
        for error in REFUSALS:
            self.assertEqual(error.__bases__, (BellError,), error)

    def test_none_stands_under_another(self):
        for error in REFUSALS:
            for other in REFUSALS:
                self.assertEqual(issubclass(error, other), error is other)

    def test_each_is_taken_by_its_names_alone(self):
        for error in REFUSALS:
            refusal(self, error, refuse, error("why") if error is not BadWaits else error(3))

    def test_bad_waits_has_its_place(self):
        for at in (None, 0, 1, 39):
            self.assertIs(BadWaits(at).at, at)
        self.assertIsNone(BadWaits().at)

    def test_all_are_defined_where_the_interface_lists_them(self):
        for name in ("BellError", "BadWaits", "NoHand", "NoLetter"):
            self.assertEqual(getattr(errors, name).__module__, "stuckbell.errors")
            self.assertEqual(getattr(errors, name).__name__, name)


if __name__ == "__main__":
    unittest.main()
