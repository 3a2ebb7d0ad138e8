"""The refusals: one class each, all under ClashError, none under another."""

import unittest

from clashbook.errors import ClashError, NoMiddle, NoName, NoRow, NoRule, NoText, TooMuch

REFUSALS = (NoText, NoName, NoRule, NoRow, NoMiddle, TooMuch)


class Errors(unittest.TestCase):
    def test_clash_error_stands_under_value_error(self):
        self.assertTrue(issubclass(ClashError, ValueError))
        self.assertIsNot(ClashError, ValueError)

    def test_each_refusal_stands_under_clash_error(self):
        for refusal in REFUSALS:
            self.assertTrue(issubclass(refusal, ClashError), refusal)
            self.assertIsNot(refusal, ClashError)

    def test_none_stands_under_another(self):
        for one in REFUSALS:
            for other in REFUSALS:
                self.assertEqual(issubclass(one, other), one.__name__ == other.__name__, (one, other))

    def test_the_names(self):
        self.assertEqual(
            [refusal.__name__ for refusal in REFUSALS],
            ["NoText", "NoName", "NoRule", "NoRow", "NoMiddle", "TooMuch"],
        )
        self.assertEqual(ClashError.__name__, "ClashError")

    def test_each_is_taken_as_any_refusal(self):
        for refusal in REFUSALS:
            with self.assertRaises(ClashError):
                raise refusal("words")


if __name__ == "__main__":
    unittest.main()
