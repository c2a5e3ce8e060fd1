"""What the modules share; of promise [4] the bounds, where no function of sets.py can reach them."""

import unittest

from pulsebook.errors import TooLong
from pulsebook.kinds import are_numbers, is_list, is_number, is_whole, told
from tests.helper import every


class Numbers(unittest.TestCase):

    def test_whole_numbers(self):
        for value in (0, 1, -1, 10 ** 5000):
            self.assertIs(is_whole(value), True)

    def test_no_whole_numbers(self):
        for value in (True, False, None, "1", 1.0, (1,), [1]):
            with self.subTest(value=value):
                self.assertIs(is_whole(value), False)

    def test_numbers_from_one_to_another(self):
        self.assertEqual([value for value in range(-5, 10) if is_number(value, 0, 1)], [0, 1])
        self.assertEqual([value for value in range(-5, 10) if is_number(value, 3, 3)], [3])
        self.assertEqual([value for value in range(-5, 10) if is_number(value, 4, 3)], [])
        for value in (True, False, None, "0", 1.0):
            with self.subTest(value=value):
                self.assertIs(is_number(value, 0, 1), False)

    def test_rows_of_numbers(self):
        for entries in ([], (), [3], [5, 3, 4], (4, 4)):
            self.assertIs(are_numbers(entries, 3, 5), True)
        for entries in ([2], [6], [3, 4, 6], [2, 4, 4], (3, None, 4), [True]):
            with self.subTest(entries=entries):
                self.assertIs(are_numbers(entries, 3, 5), False)

    def test_lists(self):
        self.assertEqual([length for length in range(6) if is_list([None] * length, 2, 4)], [2, 3, 4])
        for value in ((1, 2), "12", None, {1: 2, 3: 4}, {1, 2}, range(2), True, 2):
            with self.subTest(value=value):
                self.assertIs(is_list(value, 0, 4), False)


class Told(unittest.TestCase):

    def test_a_head_of_400_is_told(self):
        head = [0] * 399 + [1]
        self.assertEqual(told(head, [0]), (tuple(head), (0,)))

    def test_a_head_of_401_is_too_long(self):
        with self.assertRaises(TooLong):
            told([0] * 400 + [1], [0])

    def test_a_longer_head_that_is_not_needed_is_told(self):
        self.assertEqual(told([1] + [0, 1] * 1000, [0, 1]), ((), (1, 0)))
        self.assertEqual(told([0] * 399 + [1] + [0] * 1000, [0]), ((0,) * 399 + (1,), (0,)))

    def test_a_bar_of_200_is_told(self):
        self.assertEqual(told([], list(every(200)[1])), every(200))

    def test_a_bar_of_201_is_too_long(self):
        with self.assertRaises(TooLong):
            told([], list(every(201)[1]))

    def test_a_longer_bar_that_is_not_needed_is_told(self):
        self.assertEqual(told([], list(every(200)[1]) * 7), every(200))
        self.assertEqual(told([], [0] * 201), ((), (0,)))

    def test_what_is_handed_in_is_not_changed(self):
        head, bar = [1, 0, 1], [0, 1, 0, 1]
        told(head, bar)
        self.assertEqual((head, bar), ([1, 0, 1], [0, 1, 0, 1]))


if __name__ == "__main__":
    unittest.main()
