import unittest

from choicefigures.rows import free, is_bare, is_full
from tests.asked import GREATEST, PRIMES, great_rows, pascal_rows, powers


class BareFullTest(unittest.TestCase):
    def check(self, many, prime, bare, full):
        self.assertIs(is_bare(many, prime), bare, (many, prime))
        self.assertIs(is_full(many, prime), full, (many, prime))

    def test_written_out(self):
        self.check(2, 2, False, True)
        self.check(3, 2, True, False)
        self.check(2, 3, True, False)
        self.check(6, 2, False, False)
        self.check(97, 97, False, True)

    def test_arguments_by_name(self):
        self.assertIs(is_bare(many=3, prime=2), True)
        self.assertIs(is_full(many=4, prime=2), True)

    def test_rows_of_one_and_of_two_places(self):
        for prime in PRIMES:
            self.check(0, prime, True, False)
            self.check(1, prime, True, False)

    def test_against_pascal_s_rows(self):
        rows = list(pascal_rows(100))
        for prime in PRIMES:
            for many, row in enumerate(rows):
                inner = [ways % prime != 0 for ways in row[1:-1]]
                bare = all(ways % prime != 0 for ways in row)
                self.check(many, prime, bare, len(inner) > 0 and not any(inner))

    def test_as_many_free_as_they_ask(self):
        for prime in PRIMES:
            for many in great_rows(prime):
                places = many + 1
                count = free(many, prime)
                self.check(many, prime, count == places, places >= 3 and count == 2)

    def test_about_powers(self):
        for prime in PRIMES:
            for power in powers(prime)[2:]:
                self.check(power - 1, prime, True, False)
                self.check(power, prime, False, True)
                if power < GREATEST:
                    self.check(power + 1, prime, False, False)

    def test_about_so_many_times_a_power(self):
        for prime in PRIMES:
            for power in powers(prime)[2:]:
                for times in range(2, prime):
                    if times * power + 1 <= GREATEST:
                        self.check(times * power - 1, prime, True, False)
                        self.check(times * power, prime, False, False)
                        self.check(times * power + 1, prime, False, False)
