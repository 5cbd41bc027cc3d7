import unittest

from choicefigures.choices import choices, last, power, rest
from choicefigures.errors import NoMany, NoPlace, NoPrime, TooMany
from choicefigures.figures import carries, figures, order_power
from choicefigures.rows import free, free_ahead, free_at, is_bare, is_full, next_free
from tests.asked import FAR_OFF, GREATEST, NO_MANY, NO_PRIMES, PRIMES, check_refused, great_rows

WITH_A_NUMBER = (figures, order_power, free, is_bare, is_full)
WITH_ANOTHER = (rest, power, last, next_free, free_ahead, free_at)
OTHERS = (-GREATEST - 1, -1, 0, 1, 5, GREATEST, 10 ** 40 - 1)
SOME_NO_PRIMES = (-GREATEST, -2, -1, 0, 1, 4, 9, 49, 91, 99, 101, GREATEST)


class NoPrimeTest(unittest.TestCase):
    def check_all(self, many, prime, others):
        for function in WITH_A_NUMBER:
            check_refused(self, NoPrime, function, many, prime)
        for function in WITH_ANOTHER:
            for other in others:
                check_refused(self, NoPrime, function, many, other, prime)
        check_refused(self, NoPrime, carries, many, 3, prime)
        check_refused(self, NoPrime, carries, 3, many, prime)
        check_refused(self, NoPrime, carries, many, many, prime)

    def test_what_is_no_prime(self):
        for prime in NO_PRIMES:
            for many in (0, 1, 50, GREATEST):
                self.check_all(many, prime, (-1, 0, 3, GREATEST))

    def test_it_comes_ahead_of_the_others(self):
        for prime in SOME_NO_PRIMES:
            for many in NO_MANY:
                self.check_all(many, prime, OTHERS)


class NoManyTest(unittest.TestCase):
    def test_what_is_beyond_the_bounds(self):
        for prime in PRIMES:
            for many in NO_MANY:
                for function in WITH_A_NUMBER:
                    check_refused(self, NoMany, function, many, prime)
                for function in WITH_ANOTHER:
                    for other in OTHERS + (many - 1, many, many + 1):
                        check_refused(self, NoMany, function, many, other, prime)

    def test_of_carries_either_number(self):
        for prime in PRIMES:
            for number in NO_MANY:
                for good in (0, 1, GREATEST):
                    check_refused(self, NoMany, carries, number, good, prime)
                    check_refused(self, NoMany, carries, good, number, prime)
                check_refused(self, NoMany, carries, number, number, prime)
                check_refused(self, NoMany, carries, number, -number, prime)

    def test_of_choices(self):
        for many in NO_MANY:
            for some in OTHERS + (many - 1, many, many + 1):
                check_refused(self, NoMany, choices, many, some)


class NoPlaceTest(unittest.TestCase):
    def test_numbers_that_no_free_place_has(self):
        for prime in PRIMES:
            for many in great_rows(prime):
                count = free(many, prime)
                beyond = [count, count + 1, 2 * count, count + GREATEST]
                for number in [-1, -2, -count, -count - 1] + beyond + FAR_OFF:
                    check_refused(self, NoPlace, free_at, many, number, prime)


class TooManyTest(unittest.TestCase):
    def test_more_than_400_things(self):
        for many in (401, 402, 500, 1000, 10 ** 9, 10 ** 15, GREATEST - 1, GREATEST):
            for some in OTHERS + (many - 1, many, many + 1):
                check_refused(self, TooMany, choices, many, some)


class NotRefusedTest(unittest.TestCase):
    def test_the_bounds_themselves(self):
        for prime in PRIMES:
            for many in (0, 1, 401, GREATEST - 1, GREATEST):
                for function in WITH_A_NUMBER:
                    function(many, prime)
                for other in (0, 1, GREATEST - 1, GREATEST):
                    carries(many, other, prime)
                free_at(many, 0, prime)

    def test_any_number_of_chosen_ones_or_place(self):
        for prime in PRIMES:
            for many in (0, 1, 401, GREATEST):
                for other in list(OTHERS) + FAR_OFF:
                    for function in (rest, power, last, next_free, free_ahead):
                        function(many, other, prime)

    def test_choices_up_to_400_things(self):
        for many in (0, 1, 399, 400):
            for some in list(OTHERS) + FAR_OFF + [200, 400]:
                choices(many, some)
