"""Promises [1], [4] and [16]: heaps that two take from in turn."""

import copy
import unittest
from itertools import combinations, permutations, product
from random import Random

from pulsebook.errors import BadList, PulseError
from pulsebook.heaps import good_take, lost
from pulsebook.pulses import checked, has
from tests.helper import figures

# 8 heaps below are lost or not in 256 ways, so what comes behind comes again within 256 heaps; a pulse of the told
# bounds that has the same days up to here has them all.
ENOUGH = 400 + 200 + 256 + 256

ALL_LISTS = [list(numbers) for length in range(1, 9) for numbers in combinations(range(1, 9), length)]

MANY = 10 ** 39


def lost_one_by_one(numbers, length):
    told = []
    for size in range(length):
        told.append(int(not any(number <= size and told[size - number] for number in numbers)))
    return told


def take_one_by_one(numbers, told, size):
    return next((number for number in sorted(numbers) if number <= size and told[size - number]), None)


def brought_down(told, size):
    """A small heap from which all goes on as from the told one, at least 300 high."""
    rounds = next(n for n in range(1, 257) if told[256:300] == told[256 + n:300 + n])
    return 300 + (size - 300) % rounds


class Lost(unittest.TestCase):

    def assert_lost(self, numbers):
        answer = lost(numbers)
        self.assertEqual(checked(answer), answer)
        self.assertEqual(figures(answer, ENOUGH), lost_one_by_one(numbers, ENOUGH))

    def test_each_set_of_numbers(self):
        self.assertEqual(len(ALL_LISTS), 255)
        for numbers in ALL_LISTS:
            self.assert_lost(numbers)

    def test_none_of_them_is_too_long(self):
        pulses = [lost(numbers) for numbers in ALL_LISTS]
        self.assertEqual(max(len(pulse[0]) for pulse in pulses), 10)
        self.assertEqual(max(len(pulse[1]) for pulse in pulses), 25)

    def test_one_number(self):
        for number in range(1, 9):
            self.assertEqual(lost([number]), ((), (1,) * number + (0,) * number))

    def test_written_out(self):
        self.assertEqual(lost([1]), ((), (1, 0)))
        self.assertEqual(lost([1, 2]), ((), (1, 0, 0)))
        self.assertEqual(lost([1, 2, 3]), ((), (1, 0, 0, 0)))
        self.assertEqual(lost([1, 3, 4]), ((), (1, 0, 1, 0, 0, 0, 0)))
        self.assertEqual(lost([2, 4, 7]), lost([2, 4, 7, 7]))
        self.assertEqual(lost([1, 2, 3, 4, 5, 6, 7, 8]), ((), (1, 0, 0, 0, 0, 0, 0, 0, 0)))

    def test_the_same_number_twice_and_any_order(self):
        for numbers in ([1, 8], [3, 5, 8], [2, 5, 6], [1, 4, 6]):
            wanted = lost(numbers)
            for order in permutations(numbers):
                self.assertEqual(lost(list(order)), wanted)
            for doubled in product(numbers, repeat=8 - len(numbers)):
                self.assertEqual(lost(numbers + list(doubled)), wanted)
                self.assertEqual(lost(list(doubled) + numbers), wanted)
        self.assertEqual(lost([8] * 8), lost([8]))
        self.assertEqual(lost([1] * 8), lost([1]))

    def test_some_lists_in_any_order(self):
        draw = Random(113)
        for length in range(1, 9):
            for _ in range(12):
                self.assert_lost([draw.randint(1, 8) for _ in range(length)])

    def test_heaps_below_all_the_numbers_are_lost(self):
        for numbers in ALL_LISTS:
            pulse = lost(numbers)
            for size in range(min(numbers)):
                self.assertIs(has(pulse, size), True)

    def test_heaps_of_many_figures(self):
        for size in range(9 * MANY, 9 * MANY + 18):
            self.assertIs(has(lost([1, 2, 3, 4, 5, 6, 7, 8]), size), size % 9 == 0)

    def test_name_of_the_argument(self):
        self.assertEqual(lost(numbers=[1]), ((), (1, 0)))


class GoodTake(unittest.TestCase):

    def assert_takes(self, numbers, sizes):
        told = lost_one_by_one(numbers, 600)
        pulse = lost(numbers)
        for size in sizes:
            small = size if size < 500 else brought_down(told, size)
            wanted = take_one_by_one(numbers, told, small)
            answer = good_take(numbers, size)
            self.assertEqual(answer, wanted)
            self.assertNotIsInstance(answer, bool)
            self.assertIs(answer is None, has(pulse, size))
            if answer is not None:
                self.assertIs(has(pulse, size - answer), True)

    def test_small_heaps_for_each_set_of_numbers(self):
        for numbers in ALL_LISTS:
            self.assert_takes(numbers, range(20))

    def test_a_heap_of_none(self):
        for numbers in ALL_LISTS:
            self.assertIsNone(good_take(numbers, 0))

    def test_below_all_the_numbers(self):
        for numbers in ALL_LISTS:
            for size in range(min(numbers)):
                self.assertIsNone(good_take(numbers, size))

    def test_heaps_of_forty_figures(self):
        self.assertEqual(len(str(MANY)), 40)
        for numbers in ALL_LISTS[::5]:
            self.assert_takes(numbers, range(MANY, MANY + 12))
            self.assert_takes(numbers, [10 * MANY - 1, 123 * MANY // 100, 10 ** 1000])

    def test_some_lists_in_any_order(self):
        draw = Random(127)
        for length in range(1, 9):
            for _ in range(6):
                numbers = [draw.randint(1, 8) for _ in range(length)]
                self.assert_takes(numbers, list(range(20)) + [199, 200, 201, 399, 400, 401, 1000, MANY + length])

    def test_the_least_is_told(self):
        # From a heap of 4 both 3 and 4 leave a lost heap.
        self.assertEqual(lost([4, 2, 3])[1][:6], (1, 1, 0, 0, 0, 0))
        for numbers in permutations([4, 2, 3]):
            self.assertEqual(good_take(list(numbers), 4), 3)
            self.assertEqual(good_take(list(numbers), 3), 2)
            self.assertEqual(good_take(list(numbers), 5), 4)
        self.assertEqual(good_take([8, 7, 6, 5, 4, 3, 2, 1], 8), 8)
        self.assertEqual(good_take([8, 5], 8), 5)
        self.assertEqual(good_take([5, 8], 9), 5)
        self.assertEqual(good_take([8, 5], 10), 8)

    def test_written_out(self):
        self.assertEqual([good_take([1, 2, 3], size) for size in range(9)], [None, 1, 2, 3, None, 1, 2, 3, None])
        self.assertEqual([good_take([3], size) for size in range(8)], [None, None, None, 3, 3, 3, None, None])
        self.assertEqual([good_take([1, 3, 4], size) for size in range(8)], [None, 1, None, 1, 4, 3, 4, None])

    def test_names_of_the_arguments(self):
        self.assertEqual(good_take(size=3, numbers=[1]), 1)


class NoList(unittest.TestCase):

    def assert_bad(self, value):
        with self.assertRaises(BadList) as caught:
            lost(value)
        self.assertIsInstance(caught.exception, PulseError)
        for size in (0, 5, MANY):
            with self.assertRaises(BadList):
                good_take(value, size)

    def test_no_list(self):
        for value in (None, True, False, 0, 1, 5, 10 ** 5000, 1.5, "", "1", "12", b"12", (), (1,), (1, 2), {}, {1: 2},
                      {1, 2}, frozenset((1,)), range(1, 3), object(), list, lost):
            with self.subTest(kind=type(value)):
                self.assert_bad(value)
        with self.assertRaises(BadList):
            lost(iter([1]))

    def test_none_and_nine(self):
        self.assert_bad([])
        for numbers in ([1] * 9, [8] * 9, [1, 2, 3, 4, 5, 6, 7, 8, 1], [5] * 10, [3] * 1000):
            with self.subTest(length=len(numbers)):
                self.assert_bad(numbers)

    def test_a_wrong_number_anywhere(self):
        wrong = (0, 9, -1, -8, 10, 20, 10 ** 5000, -10 ** 5000, True, False, "1", "", "a", None, 1.0, 2.5, 1j,
                 (), (1,), [], [1], {}, {1}, b"1", object(), int)
        for number, entry in enumerate(wrong):
            for length in (1, 2, 3, 8):
                for place in sorted({0, length // 2, length - 1}):
                    for fill in (1, 8):
                        numbers = [fill] * length
                        numbers[place] = entry
                        with self.subTest(number=number, length=length, place=place):
                            self.assert_bad(numbers)

    def test_wrong_everywhere(self):
        for entry in (0, 9, True, None, "1"):
            self.assert_bad([entry] * 8)
            self.assert_bad([entry] * 9)

    def test_the_list_stays_as_it_was(self):
        for numbers in ([8, 1, 5, 5], [3], [8, 7, 6, 5, 4, 3, 2, 1]):
            before = list(numbers)
            lost(numbers)
            self.assertEqual(numbers, before)
            good_take(numbers, 17)
            self.assertEqual(numbers, before)
        for value in ([0, 1], [5, 9, 5], [3, True], [], [1] * 9, [[1], [2]], {1: [2]}, [1, None, {2: [3]}]):
            before = copy.deepcopy(value)
            self.assert_bad(value)
            self.assertEqual(value, before)

    def test_nothing_is_kept(self):
        numbers = [4, 7]
        first = lost(numbers)
        take = good_take(numbers, 30)
        self.assert_bad([4, 7, 0])
        self.assertEqual(good_take([1, 2], 30), None)
        self.assertEqual((lost(numbers), good_take(numbers, 30)), (first, take))
        numbers.append(2)
        self.assertEqual(lost(numbers), lost([2, 4, 7]))
        self.assertEqual((lost([4, 7]), good_take([4, 7], 30)), (first, take))


if __name__ == "__main__":
    unittest.main()
