"""conceptworlds/errors.py."""

import unittest

from conceptworlds import errors

NAMES = ["BadConcept", "BadWords", "BadWorld", "BadThing", "BadBook", "BadPrices", "NotSame", "NoWorld", "IsNothing",
         "BadText", "BadIndex", "BadNumber", "TooLarge", "NotFollows", "NotPossible", "NotWithin"]


class Errors(unittest.TestCase):
    def test_classes(self):
        self.assertEqual(errors.ConceptError.__bases__, (ValueError,))
        for name in NAMES:
            self.assertEqual(getattr(errors, name).__bases__, (errors.ConceptError,))

    def test_index(self):
        self.assertEqual(errors.BadBook(3).index, 3)
        self.assertIsNone(errors.BadBook(None).index)


if __name__ == "__main__":
    unittest.main()
