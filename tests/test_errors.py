import unittest

from uprow import errors
from uprow.errors import BadMost, BadNumbers, BadRow, BadWeights, RowError


class Errors(unittest.TestCase):
    def test_row_error_stands_straight_under_value_error(self):
        self.assertEqual(RowError.__bases__, (ValueError,))

    def test_each_refusal_stands_straight_under_row_error(self):
        for refusal in (BadNumbers, BadWeights, BadRow, BadMost):
            with self.subTest(refusal=refusal.__name__):
                self.assertEqual(refusal.__bases__, (RowError,))

    def test_the_refusals_are_classes_of_their_own(self):
        self.assertEqual(len({BadNumbers, BadWeights, BadRow, BadMost}), 4)

    def test_the_names_are_those_of_the_classes(self):
        for name in ("RowError", "BadNumbers", "BadWeights", "BadRow", "BadMost"):
            with self.subTest(name=name):
                self.assertEqual(getattr(errors, name).__name__, name)
                self.assertEqual(getattr(errors, name).__module__, "uprow.errors")

    def test_they_can_be_raised_with_words_and_without(self):
        for refusal in (RowError, BadNumbers, BadWeights, BadRow, BadMost):
            with self.subTest(refusal=refusal.__name__):
                with self.assertRaises(refusal):
                    raise refusal("words")
                with self.assertRaises(refusal):
                    raise refusal()


if __name__ == "__main__":
    unittest.main()
