import unittest

from choicefigures.errors import NoMany, NoPrime
from choicefigures.figures import carries, figures, order_power
from tests.asked import GREATEST, NO_MANY, NO_PRIMES, PRIMES, check_refused


class NoPrimeTest(unittest.TestCase):
    def test_what_is_no_prime(self):
        for prime in NO_PRIMES:
            for number in (0, 1, 50, GREATEST):
                check_refused(self, NoPrime, figures, number, prime)
                check_refused(self, NoPrime, order_power, number, prime)
                check_refused(self, NoPrime, carries, number, 3, prime)
                check_refused(self, NoPrime, carries, 3, number, prime)

    def test_it_comes_ahead_of_no_many(self):
        for prime in (-10 ** 30, -2, -1, 0, 1, 4, 9, 49, 91, 101, 10 ** 30):
            for number in NO_MANY:
                check_refused(self, NoPrime, figures, number, prime)
                check_refused(self, NoPrime, order_power, number, prime)
                check_refused(self, NoPrime, carries, number, 3, prime)
                check_refused(self, NoPrime, carries, 3, number, prime)
                check_refused(self, NoPrime, carries, number, number, prime)


class NoManyTest(unittest.TestCase):
    def test_what_is_beyond_the_bounds(self):
        for prime in PRIMES:
            for number in NO_MANY:
                check_refused(self, NoMany, figures, number, prime)
                check_refused(self, NoMany, order_power, number, prime)

    def test_of_carries_either_number(self):
        for prime in PRIMES:
            for number in NO_MANY:
                for good in (0, 1, GREATEST):
                    check_refused(self, NoMany, carries, number, good, prime)
                    check_refused(self, NoMany, carries, good, number, prime)
                check_refused(self, NoMany, carries, number, number, prime)
                check_refused(self, NoMany, carries, number, -number, prime)


class NotRefusedTest(unittest.TestCase):
    def test_the_bounds_themselves(self):
        for prime in PRIMES:
            for number in (0, 1, GREATEST - 1, GREATEST):
                figures(number, prime)
                order_power(number, prime)
                for other in (0, 1, GREATEST - 1, GREATEST):
                    carries(number, other, prime)
