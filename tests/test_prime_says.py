import math
import unittest

from choicefigures.choices import last, power, rest
from choicefigures.figures import carries, order_power
from tests.asked import FAR_OFF, GREATEST, PRIMES, chosen, great_rows, pascal_rows, taken_apart


def great_choices(prime):
    """Things and chosen ones where there is a choice."""
    for many in great_rows(prime):
        for some in chosen(many, prime):
            if 0 <= some <= many:
                yield many, some


class WrittenOutTest(unittest.TestCase):
    def test_rest(self):
        self.assertEqual(rest(5, 2, 7), 3)
        self.assertEqual(rest(5, 2, 5), 0)
        self.assertEqual(rest(10, 3, 97), 23)
        self.assertEqual(rest(0, 0, 2), 1)
        self.assertEqual(rest(3, 4, 2), 0)

    def test_power(self):
        self.assertEqual(power(4, 2, 2), 1)
        self.assertEqual(power(8, 1, 2), 3)
        self.assertEqual(power(10, 3, 7), 0)
        self.assertIsNone(power(3, 4, 2))
        self.assertIsNone(power(3, -1, 2))

    def test_last(self):
        self.assertEqual(last(4, 2, 3), 2)
        self.assertEqual(last(10, 3, 5), 4)
        self.assertEqual(last(9, 1, 3), 1)
        self.assertEqual(last(6, 1, 3), 2)
        self.assertIsNone(last(3, 4, 2))
        self.assertIsNone(last(3, -1, 2))

    def test_arguments_by_name(self):
        self.assertEqual(rest(many=10, some=3, prime=97), 23)
        self.assertEqual(power(many=10, some=3, prime=2), 3)
        self.assertEqual(last(many=10, some=3, prime=5), 4)


class PascalTest(unittest.TestCase):
    def test_rows_up_to_130_things(self):
        rows = list(pascal_rows(130))
        for prime in PRIMES:
            for many, row in enumerate(rows):
                for some, ways in enumerate(row):
                    often, left = taken_apart(ways, prime)
                    told = (rest(many, some, prime), power(many, some, prime), last(many, some, prime))
                    self.assertEqual(told, (ways % prime, often, left % prime), (many, some, prime))

    def test_where_there_is_no_choice(self):
        for prime in PRIMES:
            for many in list(range(131)) + great_rows(prime):
                for some in [-prime, -2, -1, many + 1, many + 2, many + prime] + FAR_OFF:
                    self.assertEqual(rest(many, some, prime), 0)
                    self.assertIsNone(power(many, some, prime))
                    self.assertIsNone(last(many, some, prime))

    def test_few_of_many_or_all_but_few(self):
        for prime in PRIMES:
            for many in great_rows(prime):
                for few in range(min(many, 6) + 1):
                    ways = math.comb(many, few)
                    often, left = taken_apart(ways, prime)
                    for some in (few, many - few):
                        told = (rest(many, some, prime), power(many, some, prime), last(many, some, prime))
                        self.assertEqual(told, (ways % prime, often, left % prime), (many, some, prime))


class GreatRestTest(unittest.TestCase):
    def test_bounds(self):
        for prime in PRIMES:
            for many in great_rows(prime):
                for some in chosen(many, prime):
                    told = rest(many, some, prime)
                    self.assertIs(type(told), int)
                    self.assertTrue(0 <= told < prime, (many, some, prime))

    def test_the_lowest_figures_times_the_numbers_without_them(self):
        for prime in PRIMES:
            for many, some in great_choices(prime):
                lowest = math.comb(many % prime, some % prime)
                above = rest(many // prime, some // prime, prime)
                self.assertEqual(rest(many, some, prime), lowest * above % prime, (many, some, prime))

    def test_with_and_without_the_last_one_chosen(self):
        for prime in PRIMES:
            for many in great_rows(prime)[1:]:
                for some in chosen(many, prime):
                    both = rest(many - 1, some, prime) + rest(many - 1, some - 1, prime)
                    self.assertEqual(rest(many, some, prime), both % prime, (many, some, prime))


class GreatPowerTest(unittest.TestCase):
    def test_carries_and_order_powers(self):
        for prime in PRIMES:
            for many, some in great_choices(prime):
                others = many - some
                told = power(many, some, prime)
                self.assertIs(type(told), int)
                self.assertEqual(told, carries(some, others, prime), (many, some, prime))
                less = order_power(some, prime) + order_power(others, prime)
                self.assertEqual(told, order_power(many, prime) - less, (many, some, prime))

    def test_the_rest_is_nought_just_where_it_is_above_nought(self):
        met = set()
        for prime in PRIMES:
            for many, some in great_choices(prime):
                above = power(many, some, prime) > 0
                self.assertEqual(rest(many, some, prime) == 0, above, (many, some, prime))
                met.add((prime, many > 10 ** 15, above))
        self.assertEqual(len(met), 4 * len(PRIMES))


class GreatLastTest(unittest.TestCase):
    def test_bounds(self):
        for prime in PRIMES:
            for many, some in great_choices(prime):
                told = last(many, some, prime)
                self.assertIs(type(told), int)
                self.assertTrue(1 <= told < prime, (many, some, prime))

    def test_a_rest_that_is_not_nought(self):
        for prime in PRIMES:
            for many, some in great_choices(prime):
                left = rest(many, some, prime)
                if left != 0:
                    self.assertEqual(last(many, some, prime), left, (many, some, prime))

    def test_of_the_chosen_and_of_the_others_the_same(self):
        for prime in PRIMES:
            for many, some in great_choices(prime):
                self.assertEqual(last(many, some, prime), last(many, many - some, prime))

    def test_one_thing_and_one_chosen_fewer(self):
        # Things times the choices of one fewer of both are chosen ones times the choices.
        for prime in PRIMES:
            for many, some in great_choices(prime):
                if some > 0:
                    upper = taken_apart(many, prime)[1] * last(many - 1, some - 1, prime)
                    lower = taken_apart(some, prime)[1] * last(many, some, prime)
                    self.assertEqual(upper % prime, lower % prime, (many, some, prime))

    def test_a_nought_behind_both_changes_nothing(self):
        for prime in PRIMES:
            for many, some in great_choices(prime):
                if many * prime <= GREATEST:
                    more = last(many * prime, some * prime, prime)
                    self.assertEqual(more, last(many, some, prime), (many, some, prime))

    def test_none_and_all(self):
        for prime in PRIMES:
            for many in great_rows(prime):
                for some in (0, many):
                    self.assertEqual(rest(many, some, prime), 1)
                    self.assertEqual(power(many, some, prime), 0)
                    self.assertEqual(last(many, some, prime), 1)
