import unittest

from choicefigures.figures import figures
from tests.asked import GREATEST, PRIMES, numbers, powers


def number_of(told, prime):
    return sum(figure * prime ** place for place, figure in enumerate(told))


class FiguresTest(unittest.TestCase):
    def test_written_out(self):
        self.assertEqual(figures(1, 2), [1])
        self.assertEqual(figures(6, 2), [0, 1, 1])
        self.assertEqual(figures(10, 3), [1, 0, 1])
        self.assertEqual(figures(96, 97), [96])
        self.assertEqual(figures(97, 97), [0, 1])
        self.assertEqual(figures(1234, 7), [2, 1, 4, 3])

    def test_there_are_25_primes(self):
        self.assertEqual(len(PRIMES), 25)

    def test_arguments_by_name(self):
        self.assertEqual(figures(number=11, prime=5), [1, 2])

    def test_nought_has_none(self):
        for prime in PRIMES:
            told = figures(0, prime)
            self.assertIs(type(told), list)
            self.assertEqual(told, [])

    def test_the_figures_come_to_the_number_again(self):
        for prime in PRIMES:
            for number in numbers(prime):
                told = figures(number, prime)
                self.assertIs(type(told), list)
                self.assertEqual(number_of(told, prime), number)

    def test_each_figure_is_below_the_prime(self):
        for prime in PRIMES:
            for number in numbers(prime):
                for figure in figures(number, prime):
                    self.assertIs(type(figure), int)
                    self.assertTrue(0 <= figure < prime, (number, prime, figure))

    def test_no_nought_behind_the_last_one(self):
        for prime in PRIMES:
            for number in numbers(prime):
                if number > 0:
                    self.assertGreater(figures(number, prime)[-1], 0)

    def test_about_a_power(self):
        for prime in PRIMES:
            for place, power in enumerate(powers(prime)):
                self.assertEqual(figures(power, prime), [0] * place + [1])
                self.assertEqual(figures(power - 1, prime), [prime - 1] * place)

    def test_one_below_so_many_times_a_power(self):
        for prime in PRIMES:
            for place, power in enumerate(powers(prime)):
                for times in range(2, prime):
                    if times * power - 1 <= GREATEST:
                        expected = [prime - 1] * place + [times - 1]
                        self.assertEqual(figures(times * power - 1, prime), expected)

    def test_a_power_and_a_small_number_more(self):
        for prime in PRIMES:
            for place, power in enumerate(powers(prime)):
                for more in range(1, prime):
                    if place > 0 and power + more <= GREATEST:
                        expected = [more] + [0] * (place - 1) + [1]
                        self.assertEqual(figures(power + more, prime), expected)

    def test_noughts_at_the_low_end(self):
        for prime in PRIMES:
            for number in range(1, 40):
                short = figures(number, prime)
                for place in range(5):
                    self.assertEqual(figures(number * prime ** place, prime), [0] * place + short)

    def test_the_greatest_number(self):
        for prime in PRIMES:
            told = figures(GREATEST, prime)
            self.assertEqual(len(told), len(powers(prime)))
            self.assertEqual(number_of(told, prime), GREATEST)
        self.assertEqual(figures(GREATEST, 5)[:31], [0] * 30 + [figures(2 ** 30, 5)[0]])


class OwnListTest(unittest.TestCase):
    def test_a_changed_list_changes_no_later_answer(self):
        for prime in PRIMES:
            for number in (0, 1, prime, prime ** 3 - 1, 12345, GREATEST):
                told = figures(number, prime)
                first = list(told)
                told.append(1)
                told[0] = -1
                again = figures(number, prime)
                self.assertEqual(again, first)
                again.clear()
                self.assertEqual(figures(number, prime), first)

    def test_no_two_lists_are_one(self):
        for number in (0, 1, 77, GREATEST):
            told = [figures(number, prime) for prime in PRIMES + PRIMES]
            self.assertEqual(len({id(each) for each in told}), len(told))
