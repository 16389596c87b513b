"""The refusals: their classes and fields."""

import unittest

from whatremains.errors import BadFuel, BadPapers, BadProgram, BadText, RestError

UNDER = (BadProgram, BadFuel, BadPapers, BadText)


class Errors(unittest.TestCase):
    def test_all_are_rest_errors_and_these_value_errors(self):
        self.assertTrue(issubclass(RestError, ValueError))
        for error in UNDER:
            self.assertTrue(issubclass(error, RestError))

    def test_none_is_under_another(self):
        for error in UNDER:
            for other in UNDER:
                self.assertEqual(issubclass(error, other), error is other)

    def test_fields_are_set_when_made(self):
        bad = BadProgram(3, "open")
        self.assertEqual((bad.at, bad.why), (3, "open"))
        self.assertEqual(BadPapers(2).number, 2)
        self.assertEqual(BadText(7).place, 7)

    def test_messages_are_texts(self):
        for bad in (BadProgram(3, "open"), BadFuel("so much"), BadPapers(2), BadText(7)):
            self.assertIsInstance(str(bad), str)
