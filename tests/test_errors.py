"""The refusals stand straight under FireError, and that under ValueError (point 2)."""

import unittest

from firetogether.errors import FireError, NoKept, NoLine, NoMachine, NoTree, NoWords


class Errors(unittest.TestCase):
    def test_fire_error_stands_straight_under_value_error(self):
        self.assertEqual(FireError.__bases__, (ValueError,))

    def test_each_refusal_stands_straight_under_fire_error(self):
        for refusal in (NoMachine, NoTree, NoWords, NoLine, NoKept):
            self.assertEqual(refusal.__bases__, (FireError,), refusal)

    def test_none_stands_under_another_one(self):
        refusals = (NoMachine, NoTree, NoWords, NoLine, NoKept)
        self.assertEqual(len(set(refusals)), 5)
        for one in refusals:
            for other in refusals:
                self.assertEqual(issubclass(one, other), one is other)

    def test_they_are_made_with_words(self):
        self.assertEqual(str(NoMachine("why")), "why")
