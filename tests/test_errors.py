import unittest

from choicefigures.errors import ChoiceError
from tests.asked import REFUSALS


class ErrorsTest(unittest.TestCase):
    def test_choice_error_stands_straight_under_value_error(self):
        self.assertEqual(ChoiceError.__bases__, (ValueError,))

    def test_each_refusal_stands_straight_under_choice_error(self):
        for refusal in REFUSALS:
            with self.subTest(refusal=refusal.__name__):
                self.assertEqual(refusal.__bases__, (ChoiceError,))

    def test_the_refusals_are_four(self):
        names = [refusal.__name__ for refusal in REFUSALS]
        self.assertEqual(names, ["NoPrime", "NoMany", "NoPlace", "TooMany"])
        self.assertEqual(len(set(REFUSALS)), 4)

    def test_a_refusal_is_caught_by_those_above_it(self):
        for refusal in REFUSALS:
            for above in (refusal, ChoiceError, ValueError):
                with self.subTest(refusal=refusal.__name__, above=above.__name__):
                    with self.assertRaises(above):
                        raise refusal("refused")
