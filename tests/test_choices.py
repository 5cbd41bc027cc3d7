import unittest

from choicefigures.choices import choices
from tests.asked import FAR_OFF, pascal_rows


class ChoicesTest(unittest.TestCase):
    def check_row(self, many, row):
        for some in range(-5, many + 6):
            expected = row[some] if 0 <= some <= many else 0
            told = choices(many, some)
            self.assertIs(type(told), int)
            self.assertEqual(told, expected, (many, some))
        for some in FAR_OFF:
            self.assertEqual(choices(many, some), 0, (many, some))

    def test_written_out(self):
        self.assertEqual(choices(0, 0), 1)
        self.assertEqual(choices(4, 2), 6)
        self.assertEqual(choices(5, 2), 10)
        self.assertEqual(choices(10, 3), 120)
        self.assertEqual(choices(49, 6), 13983816)
        self.assertEqual(choices(3, 4), 0)
        self.assertEqual(choices(3, -1), 0)

    def test_arguments_by_name(self):
        self.assertEqual(choices(many=10, some=3), 120)

    def test_against_pascal_s_rows(self):
        for many, row in enumerate(pascal_rows(400)):
            if many < 100 or many % 50 == 0 or many > 397:
                self.check_row(many, row)

    def test_none_and_all_in_one_way(self):
        for many in range(401):
            self.assertEqual(choices(many, 0), 1)
            self.assertEqual(choices(many, many), 1)

    def test_of_the_chosen_and_of_the_others_the_same(self):
        for many in list(range(80)) + [255, 256, 399, 400]:
            for some in range(-3, many + 4):
                self.assertEqual(choices(many, some), choices(many, many - some))

    def test_with_and_without_the_last_one_chosen(self):
        for many in list(range(1, 80)) + [255, 256, 399, 400]:
            for some in range(-3, many + 4):
                without = choices(many - 1, some)
                including = choices(many - 1, some - 1)
                self.assertEqual(choices(many, some), without + including)
