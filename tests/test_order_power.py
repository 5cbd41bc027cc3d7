import unittest

from choicefigures.figures import figures, order_power
from tests.asked import PRIMES, numbers, powers


def how_often(number, prime):
    often = 0
    while number % prime == 0:
        number //= prime
        often += 1
    return often


class OrderPowerTest(unittest.TestCase):
    def test_written_out(self):
        self.assertEqual(order_power(1, 2), 0)
        self.assertEqual(order_power(4, 2), 3)
        self.assertEqual(order_power(10, 3), 4)
        self.assertEqual(order_power(96, 97), 0)
        self.assertEqual(order_power(97, 97), 1)
        self.assertEqual(order_power(10 ** 30, 5), (10 ** 30 - sum(figures(10 ** 30, 5))) // 4)

    def test_arguments_by_name(self):
        self.assertEqual(order_power(number=10, prime=3), 4)

    def test_of_nought_it_is_nought(self):
        for prime in PRIMES:
            self.assertEqual(order_power(0, prime), 0)

    def test_counted_number_by_number(self):
        for prime in PRIMES:
            counted = 0
            for number in range(1, 201):
                counted += how_often(number, prime)
                self.assertEqual(order_power(number, prime), counted)

    def test_of_great_ones_the_quotients_come_to_it(self):
        for prime in PRIMES:
            for number in numbers(prime):
                expected = sum(number // power for power in powers(prime)[1:])
                told = order_power(number, prime)
                self.assertIs(type(told), int)
                self.assertEqual(told, expected)

    def test_the_number_less_its_figures_together(self):
        for prime in PRIMES:
            for number in numbers(prime):
                less = number - sum(figures(number, prime))
                self.assertEqual(order_power(number, prime) * (prime - 1), less)
