"""leafpages.errors: the refusals and how they stand to one another."""

import unittest

from leafpages import errors

REFUSALS = ("NoTree", "There", "NotThere", "Full", "NoRoom", "NoText", "NoRow")


class Refusals(unittest.TestCase):
    def test_leaf_error_is_a_value_error(self):
        self.assertTrue(issubclass(errors.LeafError, ValueError))

    def test_each_stands_under_leaf_error(self):
        for name in REFUSALS:
            refusal = getattr(errors, name)
            self.assertTrue(issubclass(refusal, errors.LeafError), name)
            self.assertIsNot(refusal, errors.LeafError, name)

    def test_none_stands_under_another(self):
        for name in REFUSALS:
            for other in REFUSALS:
                if name != other:
                    self.assertFalse(issubclass(getattr(errors, name), getattr(errors, other)), (name, other))

    def test_each_can_be_raised_with_words(self):
        for name in REFUSALS:
            with self.assertRaises(getattr(errors, name)):
                raise getattr(errors, name)("words")
