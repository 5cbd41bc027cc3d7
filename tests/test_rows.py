import unittest

from choicefigures.choices import power
from choicefigures.rows import free, free_ahead, free_at, next_free
from tests.asked import FAR, GREATEST, PRIMES, chosen, great_rows, pascal_rows


def free_numbers(many, prime):
    """Numbers of free places of the row: about nought, about the last one, and between."""
    count = free(many, prime)
    told = [0, 1, 2, prime - 1, prime, count // 3, count // 2, count * 7 // 11, count - 3, count - 2, count - 1]
    return sorted({number for number in told if 0 <= number < count})


def between(start, stop):
    """A few numbers from start on to below stop."""
    wide = stop - start
    told = [start, start + 1, start + 2, start + wide // 3, start + wide // 2, stop - 2, stop - 1]
    unit = 1
    while unit < wide:
        told += [start + unit, stop - unit]
        unit *= 10
    return sorted({number for number in told if start <= number < stop})


class WrittenOutTest(unittest.TestCase):
    def test_the_row_of_six_by_two(self):
        # 1 6 15 20 15 6 1
        self.assertEqual(free(6, 2), 4)
        self.assertEqual([next_free(6, place, 2) for place in range(-1, 8)], [0, 0, 2, 2, 4, 4, 6, 6, None])
        self.assertEqual([free_ahead(6, place, 2) for place in range(-1, 8)], [0, 0, 1, 1, 2, 2, 3, 3, 4])
        self.assertEqual([free_at(6, number, 2) for number in range(4)], [0, 2, 4, 6])

    def test_the_row_of_nought(self):
        for prime in PRIMES:
            self.assertEqual(free(0, prime), 1)
            self.assertEqual(next_free(0, 0, prime), 0)
            self.assertIsNone(next_free(0, 1, prime))
            self.assertEqual([free_ahead(0, place, prime) for place in (-1, 0, 1)], [0, 0, 1])
            self.assertEqual(free_at(0, 0, prime), 0)

    def test_arguments_by_name(self):
        self.assertEqual(free(many=6, prime=2), 4)
        self.assertEqual(next_free(many=6, place=3, prime=2), 4)
        self.assertEqual(free_ahead(many=6, place=3, prime=2), 2)
        self.assertEqual(free_at(many=6, number=3, prime=2), 6)


class PascalTest(unittest.TestCase):
    def rows(self):
        rows = list(pascal_rows(100))
        for prime in PRIMES:
            for many, row in enumerate(rows):
                yield prime, many, [place for place, ways in enumerate(row) if ways % prime]

    def test_free_and_free_at(self):
        for prime, many, places in self.rows():
            self.assertEqual(free(many, prime), len(places), (many, prime))
            self.assertEqual([free_at(many, number, prime) for number in range(len(places))], places)

    def test_next_free(self):
        for prime, many, places in self.rows():
            expected = None
            for place in range(many + 5, -6, -1):
                if place in places:
                    expected = place
                elif place < 0:
                    expected = 0
                self.assertEqual(next_free(many, place, prime), expected, (many, place, prime))

    def test_free_ahead(self):
        for prime, many, places in self.rows():
            expected = 0
            for place in range(-5, many + 6):
                self.assertEqual(free_ahead(many, place, prime), expected, (many, place, prime))
                expected += place in places

    def test_far_below_and_far_beyond(self):
        for prime, many, places in self.rows():
            for far in FAR + [many + prime ** 5, GREATEST]:
                self.assertEqual(next_free(many, -far, prime), 0)
                self.assertEqual(free_ahead(many, -far, prime), 0)
                self.assertIsNone(next_free(many, far, prime))
                self.assertEqual(free_ahead(many, far, prime), len(places))


class GreatRowsTest(unittest.TestCase):
    def asked(self):
        for prime in PRIMES:
            for many in great_rows(prime):
                for place in chosen(many, prime):
                    yield many, place, prime

    def test_the_next_free_place(self):
        for many, place, prime in self.asked():
            told = next_free(many, place, prime)
            if told is None:
                self.assertGreater(place, many, (many, place, prime))
                continue
            self.assertIs(type(told), int)
            self.assertTrue(place <= told <= many, (many, place, prime))
            self.assertEqual(power(many, told, prime), 0, (many, place, prime))
            for taken in between(max(place, 0), told):
                self.assertGreater(power(many, taken, prime), 0, (many, taken, prime))

    def test_none_just_where_all_free_places_are_ahead(self):
        for many, place, prime in self.asked():
            all_ahead = free_ahead(many, place, prime) == free(many, prime)
            self.assertEqual(next_free(many, place, prime) is None, all_ahead, (many, place, prime))

    def test_as_many_ahead_of_the_next_free_place(self):
        for many, place, prime in self.asked():
            told = next_free(many, place, prime)
            ahead = free_ahead(many, place, prime)
            self.assertIs(type(ahead), int)
            if told is not None:
                self.assertEqual(free_ahead(many, told, prime), ahead, (many, place, prime))
                self.assertEqual(free_at(many, ahead, prime), told, (many, place, prime))
                self.assertEqual(free_ahead(many, told + 1, prime), ahead + 1, (many, place, prime))

    def test_as_many_ahead_as_behind_of_the_place_over_against_it(self):
        for many, place, prime in self.asked():
            both = free_ahead(many, place, prime) + free_ahead(many, many - place + 1, prime)
            self.assertEqual(both, free(many, prime), (many, place, prime))

    def test_the_free_place_with_a_number(self):
        for prime in PRIMES:
            for many in great_rows(prime):
                for number in free_numbers(many, prime):
                    told = free_at(many, number, prime)
                    self.assertIs(type(told), int)
                    self.assertTrue(0 <= told <= many)
                    self.assertEqual(power(many, told, prime), 0)
                    self.assertEqual(free_ahead(many, told, prime), number)
                    self.assertEqual(next_free(many, told, prime), told)

    def test_the_free_places_follow_one_another(self):
        for prime in PRIMES:
            for many in great_rows(prime):
                for number in free_numbers(many, prime)[:-1]:
                    told = free_at(many, number, prime)
                    self.assertEqual(free_at(many, number + 1, prime), next_free(many, told + 1, prime))

    def test_the_first_and_the_last_one(self):
        for prime in PRIMES:
            for many in great_rows(prime):
                self.assertEqual(free_at(many, 0, prime), 0)
                self.assertEqual(free_at(many, free(many, prime) - 1, prime), many)

    def test_a_lowest_figure_more(self):
        for prime in PRIMES:
            for many in great_rows(prime):
                told = free(many, prime)
                self.assertIs(type(told), int)
                self.assertEqual(told, free(many // prime, prime) * (many % prime + 1))
