"""The errors of the interface (point 1, surehouse/errors.py)."""

import unittest

from surehouse import errors

WITH_MESSAGE = (
    "BadCatalog", "BadOrder", "BadNumber", "BadItem", "BadName", "BadPrices", "BadBill",
    "BadAccounts", "BadEntries", "BadKey", "BadDeals", "BadEvent", "BadParcel",
)


class ErrorsTest(unittest.TestCase):

    def test_shop_error_stands_under_value_error(self):
        self.assertTrue(issubclass(errors.ShopError, ValueError))
        self.assertEqual(str(errors.ShopError("why")), "why")

    def test_all_stand_directly_in_their_file_under_shop_error(self):
        for name in WITH_MESSAGE + ("TooLow", "BadLine"):
            with self.subTest(name):
                error = getattr(errors, name)
                self.assertTrue(issubclass(error, errors.ShopError))
                self.assertEqual(error.__module__, "surehouse.errors")
                self.assertEqual(error.__name__, name)

    def test_none_is_caught_as_another(self):
        kinds = [getattr(errors, name) for name in WITH_MESSAGE + ("TooLow", "BadLine")]
        for one in kinds:
            for other in kinds:
                self.assertEqual(issubclass(one, other), one is other)

    def test_made_with_a_message(self):
        for name in WITH_MESSAGE:
            with self.subTest(name):
                self.assertEqual(str(getattr(errors, name)("the message")), "the message")

    def test_too_low_tells_the_name(self):
        self.assertEqual(vars(errors.TooLow("till")), {"name": "till"})
        self.assertEqual(errors.TooLow(name="till").name, "till")
        self.assertIn("till", str(errors.TooLow("till")))

    def test_bad_line_tells_line_and_word(self):
        self.assertEqual(vars(errors.BadLine(3, 2)), {"line": 3, "word": 2})
        error = errors.BadLine(word=2, line=3)
        self.assertEqual((error.line, error.word), (3, 2))
        self.assertEqual(str(errors.BadLine(3, 2)), "line 3, word 2")

    def test_raised_errors_are_caught_as_value_errors(self):
        for error in (errors.TooLow("till"), errors.BadLine(1, 1), errors.BadKey("no")):
            with self.assertRaises(ValueError):
                raise error


if __name__ == "__main__":
    unittest.main()
