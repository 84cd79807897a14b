"""The refusals: bitrail.errors, and the last sentences of point 2."""

import unittest

from bitrail import errors
from tests.helper import OF_NUMBER, OF_TEXT, REFUSALS, RailCase

TEXTS = ("", "some text", "a row\nand\tanother ~ {} \\", "x" * 500)
NUMBERS = (0, 1, 17, 400, 10 ** 99)


class ErrorsTest(RailCase):
    def test_there_are_ten_under_the_base(self):
        self.assertEqual(len(set(REFUSALS)), 10)
        self.assertTrue(issubclass(errors.RailError, ValueError))
        for name in REFUSALS:
            self.assertTrue(issubclass(getattr(errors, name), errors.RailError), name)

    def test_each_is_taken_by_its_own_name_and_the_base_alone(self):
        for name in OF_TEXT:
            for text in TEXTS:
                self.assert_raised_alone(name, text)
        for name in OF_NUMBER:
            for number in NUMBERS:
                self.assert_raised_alone(name, number)

    def assert_raised_alone(self, name, made_of):
        kind = getattr(errors, name)
        for taker in (ValueError, errors.RailError, kind):
            with self.assertRaises(taker) as caught:
                raise kind(made_of)
            self.assert_alone(caught.exception, name)

    def test_the_base_is_taken_by_no_other(self):
        for name in REFUSALS:
            self.assertNotIsInstance(errors.RailError("text"), getattr(errors, name))

    def test_no_one_stands_under_another(self):
        for name in REFUSALS:
            for other in REFUSALS:
                under = issubclass(getattr(errors, name), getattr(errors, other))
                self.assertEqual(under, name == other, (name, other))

    def test_no_wire_keeps_at(self):
        for number in NUMBERS:
            self.assert_number(errors.NoWire(number).at, number)
        self.assertNotEqual(errors.NoWire(3).at, errors.NoWire(4).at)

    def test_no_row_keeps_word(self):
        for number in NUMBERS:
            self.assert_number(errors.NoRow(number).word, number)
        self.assertNotEqual(errors.NoRow(3).word, errors.NoRow(4).word)


if __name__ == "__main__":
    unittest.main()
