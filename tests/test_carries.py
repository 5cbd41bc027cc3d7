import unittest

from choicefigures.figures import carries, figures
from tests.asked import GREATEST, PRIMES, few_numbers, numbers, powers


def added_by_hand(one, other, prime):
    """The figures of the sum, lowest first, and how often something was carried."""
    written = []
    carried = 0
    often = 0
    while one or other or carried:
        one, upper = divmod(one, prime)
        other, lower = divmod(other, prime)
        together = upper + lower + carried
        carried = 0
        if together >= prime:
            together -= prime
            carried = 1
            often += 1
        written.append(together)
    return written, often


class CarriesTest(unittest.TestCase):
    def test_written_out(self):
        self.assertEqual(carries(1, 1, 2), 1)
        self.assertEqual(carries(2, 1, 2), 0)
        self.assertEqual(carries(3, 1, 2), 2)
        self.assertEqual(carries(5, 4, 3), 2)
        self.assertEqual(carries(96, 1, 97), 1)
        self.assertEqual(carries(95, 1, 97), 0)

    def test_arguments_by_name(self):
        self.assertEqual(carries(one=5, other=4, prime=3), 2)

    def test_small_numbers_added_by_hand(self):
        for prime in PRIMES:
            for one in range(60):
                for other in range(60):
                    told = carries(one, other, prime)
                    self.assertIs(type(told), int)
                    self.assertEqual(told, added_by_hand(one, other, prime)[1])

    def test_numbers_up_to_the_greatest_added_by_hand(self):
        for prime in PRIMES:
            few = few_numbers(prime)
            for one in few:
                for other in few:
                    told = carries(one, other, prime)
                    self.assertEqual(told, added_by_hand(one, other, prime)[1])
                    self.assertEqual(told, carries(other, one, prime))

    def test_nought_carries_nothing(self):
        for prime in PRIMES:
            for number in numbers(prime):
                self.assertEqual(carries(number, 0, prime), 0)
                self.assertEqual(carries(0, number, prime), 0)

    def test_chains(self):
        for prime in PRIMES:
            for place, power in enumerate(powers(prime)):
                self.assertEqual(carries(power - 1, 1, prime), place)
                self.assertEqual(carries(1, power - 1, prime), place)
                self.assertEqual(carries(power - 1, power - 1, prime), place)

    def test_a_chain_ends_at_a_figure_that_takes_it(self):
        for prime in PRIMES[1:]:
            for place, power in enumerate(powers(prime)[:-1]):
                self.assertEqual(carries(2 * power - 1, 1, prime), place)

    def test_a_sum_beyond_the_greatest(self):
        for prime in PRIMES:
            for one in (GREATEST, GREATEST - 1, GREATEST // 2 + 1):
                written, often = added_by_hand(one, GREATEST, prime)
                self.assertEqual(sum(f * prime ** k for k, f in enumerate(written)), one + GREATEST)
                self.assertEqual(carries(one, GREATEST, prime), often)

    def test_what_the_figures_come_to(self):
        for prime in PRIMES:
            few = few_numbers(prime)
            for one in few:
                for other in few:
                    both = sum(figures(one, prime)) + sum(figures(other, prime))
                    lost = both - sum(added_by_hand(one, other, prime)[0])
                    self.assertEqual(carries(one, other, prime) * (prime - 1), lost)
