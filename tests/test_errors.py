"""The refusals: each one there, straight under PhraseError."""

import unittest

from phrasedesk import errors

NAMES = ["BadFroms", "BadPhrase", "BadTongue", "BadText", "BadSeen", "BadRow", "BadOld", "BadHands", "BadTale",
         "Overtaken", "Nothing", "TooMany"]


class Errors(unittest.TestCase):
    def test_phrase_error_is_straight_under_value_error(self):
        self.assertEqual(errors.PhraseError.__bases__, (ValueError,))

    def test_each_is_straight_under_phrase_error(self):
        for name in NAMES:
            with self.subTest(name):
                self.assertEqual(getattr(errors, name).__bases__, (errors.PhraseError,))
                self.assertEqual(getattr(errors, name).__name__, name)

    def test_no_two_are_the_same(self):
        self.assertEqual(len({getattr(errors, name) for name in NAMES}), 12)

    def test_each_can_be_raised_and_caught_as_value_error(self):
        for name in NAMES:
            with self.subTest(name), self.assertRaises(ValueError):
                raise getattr(errors, name)("why")


if __name__ == "__main__":
    unittest.main()
