"""Point 5: the errors."""

import unittest

from tests.anything import odd_objects
from withinbooks import errors
from withinbooks.errors import PurseError

WITH_FIELD = (
    "InvalidWord InvalidBook InvalidEffect InvalidManner InvalidManners InvalidRooms InvalidManual InvalidManuals "
    "InvalidChange InvalidChanges InvalidRoom InvalidWay InvalidCount InvalidCard InvalidMark InvalidExpression "
    "InvalidTable InvalidRests InvalidRule InvalidLot InvalidMending InvalidHouse InvalidSpot InvalidScript "
    "InvalidText InvalidLog Refused TooMany").split()
WITHOUT_FIELD = ["NothingToUndo", "NothingToRedo"]


class ErrorsTest(unittest.TestCase):
    def test_each_is_a_purse_error_and_no_other(self):
        classes = [getattr(errors, name) for name in WITH_FIELD + WITHOUT_FIELD]
        self.assertTrue(issubclass(PurseError, ValueError))
        for one in classes:
            self.assertTrue(issubclass(one, PurseError), one)
            self.assertIsNot(one, PurseError)
            self.assertEqual([other for other in classes if issubclass(one, other)], [one])

    def test_the_field_holds_the_very_object(self):
        for name in WITH_FIELD:
            made = getattr(errors, name)
            for value in odd_objects():
                self.assertIs(made(value).value, value)
                self.assertIs(made(value=value).value, value)
            self.assertIsNone(made().value)

    def test_a_raised_error_is_caught_by_its_bases(self):
        for name in WITH_FIELD:
            for base in [getattr(errors, name), PurseError, ValueError]:
                with self.assertRaises(base) as caught:
                    raise getattr(errors, name)([name])
                self.assertEqual(caught.exception.value, [name])

    def test_the_others_are_made_without_arguments(self):
        for name in WITHOUT_FIELD + ["PurseError"]:
            made = getattr(errors, name)()
            self.assertIsInstance(made, PurseError)
            self.assertFalse(hasattr(made, "value"))


if __name__ == "__main__":
    unittest.main()
