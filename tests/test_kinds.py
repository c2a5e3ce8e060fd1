"""What the modules share; of promise [4] the bounds, where no function of sets.py can reach them."""

import unittest

from pulsebook.errors import TooLong
from pulsebook.kinds import is_figure, is_whole, told
from tests.helper import every


class Numbers(unittest.TestCase):

    def test_whole_numbers(self):
        for value in (0, 1, -1, 10 ** 5000):
            self.assertIs(is_whole(value), True)

    def test_no_whole_numbers(self):
        for value in (True, False, None, "1", 1.0, (1,), [1]):
            with self.subTest(value=value):
                self.assertIs(is_whole(value), False)

    def test_figures(self):
        self.assertEqual([value for value in (-1, 0, 1, 2) if is_figure(value)], [0, 1])
        for value in (True, False, None, "0", 1.0):
            with self.subTest(value=value):
                self.assertIs(is_figure(value), False)


class Told(unittest.TestCase):

    def test_a_head_of_400_is_told(self):
        head = [0] * 399 + [1]
        self.assertEqual(told(head, [0]), (tuple(head), (0,)))

    def test_a_head_of_401_is_too_long(self):
        with self.assertRaises(TooLong):
            told([0] * 400 + [1], [0])

    def test_a_longer_head_that_is_not_needed_is_told(self):
        self.assertEqual(told([1] + [0, 1] * 1000, [0, 1]), ((), (1, 0)))
        self.assertEqual(told([0] * 399 + [1] + [0] * 1000, [0]), ((0,) * 399 + (1,), (0,)))

    def test_a_bar_of_200_is_told(self):
        self.assertEqual(told([], list(every(200)[1])), every(200))

    def test_a_bar_of_201_is_too_long(self):
        with self.assertRaises(TooLong):
            told([], list(every(201)[1]))

    def test_a_longer_bar_that_is_not_needed_is_told(self):
        self.assertEqual(told([], list(every(200)[1]) * 7), every(200))
        self.assertEqual(told([], [0] * 201), ((), (0,)))

    def test_what_is_handed_in_is_not_changed(self):
        head, bar = [1, 0, 1], [0, 1, 0, 1]
        told(head, bar)
        self.assertEqual((head, bar), ([1, 0, 1], [0, 1, 0, 1]))


if __name__ == "__main__":
    unittest.main()
