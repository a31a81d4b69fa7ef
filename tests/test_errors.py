"""The interface: the refusals, and what they stand under."""

import unittest

from rootrow.errors import NoNumber, RowError


class Errors(unittest.TestCase):
    def test_row_error_stands_right_under_value_error(self):
        self.assertEqual(RowError.__bases__, (ValueError,))

    def test_no_number_stands_right_under_row_error(self):
        self.assertEqual(NoNumber.__bases__, (RowError,))

    def test_each_is_taken_by_those_above_it(self):
        for raised in (NoNumber, RowError):
            for taken in (RowError, ValueError):
                with self.subTest(raised=raised, taken=taken):
                    with self.assertRaises(taken):
                        raise raised("words")

    def test_no_number_does_not_take_a_row_error(self):
        self.assertNotIsInstance(RowError("words"), NoNumber)


if __name__ == "__main__":
    unittest.main()
