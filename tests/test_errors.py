"""The interface's line on errors.py."""

import unittest

from keyorders import errors


class Errors(unittest.TestCase):
    def test_any_refusal_is_a_value_error(self):
        self.assertEqual(errors.OrderError.__bases__, (ValueError,))

    def test_four_refusals_stand_directly_below_it(self):
        for refusal in (errors.NoText, errors.NoPlace, errors.Ring, errors.NoStep):
            self.assertEqual(refusal.__bases__, (errors.OrderError,), refusal)

    def test_they_can_be_raised_with_words(self):
        for refusal in (errors.OrderError, errors.NoText, errors.NoPlace, errors.Ring, errors.NoStep):
            with self.assertRaises(errors.OrderError) as caught:
                raise refusal("words")
            self.assertIs(caught.exception.__class__, refusal)
            self.assertEqual(str(caught.exception), "words")
