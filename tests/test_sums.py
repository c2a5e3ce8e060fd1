"""Promises [1], [4], [7] and [8]: the sum of two pulses, and all sums of a list of numbers."""

import copy
import unittest
from itertools import combinations_with_replacement
from math import gcd, lcm
from random import Random

from pulsebook.errors import BadForm, BadList, TooLong
from pulsebook.moves import later
from pulsebook.pulses import always, checked, has, made, never
from pulsebook.sets import either
from pulsebook.sums import added, all_sums
from tests.helper import at, days_below, every, figure, figures, forms, is_too_long, just, some_forms, tightest, turned


def reach(one, two):
    """A head and a bar long enough for the sum of two pulses."""
    bar = lcm(len(one[1]), len(two[1]))
    return len(one[0]) + len(two[0]) + len(one[1]) + len(two[1]) + bar, bar


def sums_one_by_one(one, two, length):
    theirs = days_below(two, length)
    return {day + another for day in days_below(one, length) for another in theirs if day + another < length}


def sums_in_bulk(one, two, length):
    """The same, with the days below `length` as the bits of one number, for pulses with many days."""
    theirs, total = sum(1 << day for day in days_below(two, length)), 0
    for day in days_below(one, length):
        total |= theirs << day
    written = bin(total)[:1:-1].ljust(length, "0")
    return {day for day in range(length) if written[day] == "1"}


def wanted_sum(one, two, sums):
    """The head and bar, however long, of the sum."""
    head, bar = reach(one, two)
    days = sums(one, two, head + 2 * bar)
    return tightest([int(day in days) for day in range(head + 2 * bar)], head, bar)


SMALL = sorted({made(form) for form in forms(2, 3)})


class Added(unittest.TestCase):

    def assert_added(self, one, two, sums=sums_one_by_one):
        """Tells whether the sum was refused."""
        wanted = wanted_sum(one, two, sums)
        if is_too_long(wanted):
            for pair in ((one, two), (two, one)):
                with self.assertRaises(TooLong):
                    added(*pair)
            return True
        answer = added(one, two)
        self.assertEqual(checked(answer), answer)
        self.assertEqual(answer, wanted)
        self.assertEqual(added(two, one), wanted)
        return False

    def test_small_pulses(self):
        self.assertIn(never(), SMALL)
        self.assertIn(always(), SMALL)
        for one in SMALL:
            for two in SMALL:
                self.assertFalse(self.assert_added(one, two))

    def test_some_pulses(self):
        pulses = [made(form) for form in some_forms(23, 16, 12, 9)] + [just(0, 7), just(11), at(8, 5), at(9, 0)]
        for one in pulses:
            for two in pulses:
                self.assertFalse(self.assert_added(one, two))

    def test_many_pulses_with_few_days(self):
        draw, refused = Random(29), 0
        for _ in range(60):
            pair = []
            for _ in range(2):
                head = tuple(int(draw.randrange(30) == 0) for _ in range(draw.randint(0, 300)))
                bar = tuple(int(draw.randrange(12) == 0) for _ in range(draw.randint(1, 30)))
                pair.append(made((head, bar)))
            refused += self.assert_added(pair[0], pair[1], sums_in_bulk)
        self.assertGreater(refused, 5)
        self.assertLess(refused, 55)

    def test_the_longest_pulses(self):
        head, bar = (0,) * 399 + (1,), every(200)[1]
        for one, two in (((head, (0,)), (head, (0,))), ((head, bar), just(0)), ((head, bar), just(1)),
                         ((head, bar), (head, bar)), (((1,) * 400, bar), ((1,) * 400, bar)),
                         (((1,) * 400, (0,)), ((1,) * 400, (0,))), (at(200, 0), at(200, 199))):
            checked(one)
            checked(two)
            self.assert_added(one, two, sums_in_bulk)

    def test_days_of_many_figures(self):
        many = 10 ** 39
        one, two = ((1, 0, 0, 1), (0,)), ((1,), (0, 0, 0, 0, 1, 0, 0))
        answer = added(one, two)
        for day in range(7 * many, 7 * many + 20):
            self.assertIs(has(answer, day), has(two, day) or has(two, day - 3))
        answer = added(((), (1, 0, 0, 0)), ((1,), (0, 0, 0, 0, 0, 1)))
        for day in range(12 * many, 12 * many + 20):
            self.assertIs(has(answer, day), day % 2 == 0)

    def test_written_out(self):
        self.assertEqual(added(((), (1, 0)), ((), (0, 1))), ((), (0, 1)))
        self.assertEqual(added(((), (1, 0)), ((), (1, 0, 0))), ((1, 0), (1,)))
        self.assertEqual(added(((), (0, 1)), ((), (0, 1))), ((0,), (0, 1)))
        self.assertEqual(added(at(3, 0), at(5, 0)), ((1, 0, 0, 1, 0, 1, 1, 0), (1,)))
        self.assertEqual(added(just(0, 3), just(0, 1)), just(0, 1, 3, 4))
        self.assertEqual(added(((1,), (0, 0, 1)), just(0, 1)), ((), (1, 1, 0)))

    def test_with_never(self):
        for pulse in SMALL + [made(form) for form in some_forms(31, 10, 400, 200)]:
            self.assertEqual(added(pulse, never()), never())
            self.assertEqual(added(never(), pulse), never())

    def test_with_day_0_alone(self):
        for pulse in SMALL + [made(form) for form in some_forms(37, 10, 400, 200)]:
            self.assertEqual(added(pulse, just(0)), pulse)
            self.assertEqual(added(just(0), pulse), pulse)

    def test_with_one_day_alone(self):
        for pulse in SMALL:
            for day in (1, 2, 7, 300):
                self.assertEqual(added(pulse, just(day)), later(pulse, day))

    def test_with_two_days(self):
        for pulse in SMALL:
            self.assertEqual(added(pulse, just(2, 5)), either(later(pulse, 2), later(pulse, 5)))

    def test_with_always(self):
        for pulse in SMALL:
            first = next((day for day in range(10) if figure(pulse, day) == 1), None)
            wanted = never() if first is None else ((0,) * first, (1,))
            self.assertEqual(added(pulse, always()), wanted)

    def test_in_any_order(self):
        pulses = [made(form) for form in some_forms(41, 9, 6, 6)]
        for one, two, three in zip(pulses[:3], pulses[3:6], pulses[6:]):
            self.assertEqual(added(added(one, two), three), added(one, added(two, three)))


class AddedAtTheBounds(unittest.TestCase):

    def assert_added(self, one, two, wanted):
        checked(one)
        checked(two)
        self.assertEqual(added(one, two), wanted)
        self.assertEqual(added(two, one), wanted)
        self.assertEqual(checked(wanted), wanted)
        head, bar = reach(one, two)
        days = sums_in_bulk(one, two, head + bar)
        self.assertEqual(figures(wanted, head + bar), [int(day in days) for day in range(head + bar)])

    def assert_too_long(self, one, two):
        checked(one)
        checked(two)
        for pair in ((one, two), (two, one)):
            with self.assertRaises(TooLong):
                added(*pair)

    def test_a_head_at_the_bound(self):
        self.assert_added(just(200), just(199), just(399))
        self.assert_too_long(just(200), just(200))
        self.assert_too_long(just(399), just(1))
        self.assert_too_long(just(399), just(399))
        self.assert_added(((0,) * 200, (1,)), ((0,) * 200, (1,)), ((0,) * 400, (1,)))
        self.assert_too_long(((0,) * 201, (1,)), ((0,) * 200, (1,)))

    def test_a_bar_at_the_bound(self):
        self.assert_added(every(200), just(0, 7), ((), tuple(int(day in (0, 7)) for day in range(200))))
        # Day 0 in each head puts both bars into the sum, of odd days, while the bars together have the even ones.
        one, two = checked(((1,), at(8, 0)[1])), checked(((1,), at(50, 0)[1]))
        wanted = wanted_sum(one, two, sums_in_bulk)
        self.assertEqual(len(wanted[1]), 200)
        self.assert_added(one, two, wanted)

    def test_a_bar_beyond_the_bound(self):
        for step, other_step, length in ((6, 68, 204), (26, 34, 442), (8, 54, 216)):
            one, two = ((1,), at(step, 0)[1]), ((1,), at(other_step, 0)[1])
            wanted = wanted_sum(one, two, sums_in_bulk)
            self.assertEqual(len(wanted[1]), length)
            self.assert_too_long(one, two)

    def test_bars_that_fill_up_too_late(self):
        self.assert_too_long(every(199), every(200))
        self.assert_too_long(every(200), every(7))
        self.assert_too_long(every(198), every(200))

    def test_first_sums_that_fill_up_at_the_bound(self):
        # The last day that is no sum of steps a and b is a * b - a - b.
        for step, other_step, last in ((2, 199, 197), (20, 21, 379), (12, 37, 395), (3, 200, 397)):
            days = sums_one_by_one(every(step), every(other_step), last + 1)
            head = tuple(int(day in days) for day in range(last + 1))
            self.assertEqual(step * other_step - step - other_step, last)
            self.assert_added(every(step), every(other_step), (head, (1,)))
        self.assert_too_long(every(21), every(22))
        self.assert_too_long(every(12), every(41))
        self.assert_too_long(later(every(3), 3), every(200))

    def test_bars_that_go_in_step_late(self):
        self.assert_added(every(199), turned(at(200, 199)), always())
        self.assert_added(every(199), turned(at(200, 0)), ((0,), (1,)))
        self.assert_added(at(199, 30), turned(at(200, 60)), ((0,) * 30 + (1,) * 60 + (0,), (1,)))
        self.assert_added(every(198), ((), tuple(int(day % 2 == 0 and day != 10) for day in range(200))),
                          ((1, 0) * 5 + (0,), (0, 1)))

    def test_heads_that_are_no_more_needed(self):
        self.assert_added(just(0, 399), every(3), every(3))
        self.assert_added(just(0, 380), every(190), every(190))
        self.assert_added(((1,) * 400, every(200)[1]), ((1,) * 400, every(199)[1]), always())
        self.assert_added(((1,) * 400, (0,)), every(200), always())

    def test_long_pulses_with_many_days(self):
        draw = Random(43)
        for few in (2, 6):
            one, two = [made((tuple(int(draw.randrange(few) == 0) for _ in range(400)),
                              tuple(int(draw.randrange(few) == 0) for _ in range(bar)))) for bar in (200, 197)]
            answer = added(one, two)
            self.assertEqual(checked(answer), answer)
            head, bar = reach(one, two)
            days = sums_in_bulk(one, two, head + bar)
            self.assertEqual(figures(answer, head + bar), [int(day in days) for day in range(head + bar)])


class AddedAsHanded(unittest.TestCase):

    def test_names_of_the_arguments(self):
        self.assertEqual(added(one=((), (1, 0)), other=just(1)), ((), (0, 1)))

    def test_the_same_answer_each_time(self):
        one, two = ((1, 1), (0, 1, 0)), ((), (1, 0))
        first = added(one, two)
        with self.assertRaises(TooLong):
            added(just(399), just(399))
        self.assertEqual(added(one, two), first)
        self.assertEqual((one, two), (((1, 1), (0, 1, 0)), ((), (1, 0))))


def all_sums_one_by_one(numbers, length):
    sums, fresh = {0}, [0]
    while fresh:
        fresh = sorted({day + number for day in fresh for number in numbers if day + number < length} - sums)
        sums.update(fresh)
    return sums


class AllSums(unittest.TestCase):

    def assert_all_sums(self, numbers):
        handed = list(numbers)
        answer = all_sums(handed)
        self.assertEqual(handed, list(numbers))
        self.assertEqual(checked(answer), answer)
        days = all_sums_one_by_one(numbers, 600)
        listed = [int(day in days) for day in range(600)]
        # From here on all multiples of the common divisor are there, and nothing else.
        divisor = gcd(*numbers)
        self.assertEqual(listed[400:], [int(day % divisor == 0) for day in range(400, 600)])
        self.assertEqual(answer, tightest(listed[:400 + 2 * divisor], 400, divisor))

    def test_one_number(self):
        for number in range(1, 21):
            self.assertEqual(all_sums([number]), every(number))
            self.assert_all_sums([number])

    def test_two_numbers(self):
        for one in range(1, 21):
            for two in range(1, 21):
                self.assert_all_sums([one, two])

    def test_three_numbers(self):
        for numbers in list(combinations_with_replacement(range(1, 21), 3))[::3]:
            self.assert_all_sums(numbers)
            self.assert_all_sums(numbers[::-1])

    def test_up_to_six_numbers(self):
        draw = Random(47)
        for length in (4, 5, 6):
            for least in (1, 2, 8, 15):
                for _ in range(15):
                    self.assert_all_sums([draw.randint(least, 20) for _ in range(length)])

    def test_with_a_common_divisor(self):
        for numbers in ([6, 9, 15], [20, 15, 10], [4, 6], [20, 18], [12, 18, 8], [14, 7], [20, 20, 20, 20, 20, 20],
                        [16, 12, 20, 8, 4, 4], [18, 20, 16, 14, 12, 10]):
            self.assert_all_sums(numbers)

    def test_written_out(self):
        self.assertEqual(all_sums([1]), always())
        self.assertEqual(all_sums([20]), every(20))
        self.assertEqual(all_sums([20, 1]), always())
        self.assertEqual(all_sums([2, 3]), ((1, 0), (1,)))
        self.assertEqual(all_sums([3, 3]), ((), (1, 0, 0)))
        self.assertEqual(all_sums([4, 6]), ((1, 0, 0), (0, 1)))
        self.assertEqual(all_sums([3, 5]), ((1, 0, 0, 1, 0, 1, 1, 0), (1,)))

    def test_the_longest_head(self):
        # The last day that is no sum of 19 and 20 is 19 * 20 - 19 - 20.
        for numbers in ([19, 20], [20, 19], [20, 19, 20, 19, 20, 19]):
            answer = all_sums(numbers)
            self.assertEqual((len(answer[0]), answer[1]), (342, (1,)))

    def test_the_order_and_twice_the_same(self):
        wanted = all_sums([7, 11, 13])
        for numbers in ([13, 11, 7], [11, 7, 13, 7], [7, 7, 11, 11, 13, 13], [7, 11, 13, 14, 20, 18]):
            self.assertEqual(all_sums(numbers), wanted)

    def test_the_sums_of_two_are_sums(self):
        for numbers in ([3, 7], [20, 19], [6, 10, 15], [8]):
            self.assertEqual(added(all_sums(numbers), all_sums(numbers)), all_sums(numbers))
        self.assertEqual(added(all_sums([9]), all_sums([11])), all_sums([9, 11]))

    def test_days_of_many_figures(self):
        for day in range(10 ** 39, 10 ** 39 + 20):
            self.assertIs(has(all_sums([6, 9, 15]), day), day % 3 == 0)


class NoList(unittest.TestCase):

    def assert_bad(self, value):
        with self.assertRaises(BadList):
            all_sums(value)

    def test_no_list(self):
        for value in (None, True, False, 0, 1, 5, 10 ** 5000, 1.5, "", "1", "12", b"12", (), (1,), (1, 2), {}, {1: 2},
                      {1, 2}, frozenset((1,)), range(1, 3), iter([1]), object(), list, all_sums, ((), (1,))):
            with self.subTest(kind=type(value)):
                self.assert_bad(value)

    def test_none_and_seven(self):
        self.assert_bad([])
        for numbers in ([1] * 7, [20] * 7, [1, 2, 3, 4, 5, 6, 7], [5] * 8, [3] * 1000):
            with self.subTest(length=len(numbers)):
                self.assert_bad(numbers)

    def test_a_wrong_number_anywhere(self):
        wrong = (0, 21, -1, -20, 22, 400, 10 ** 5000, -10 ** 5000, True, False, "1", "", "a", None, 1.0, 2.5, 1j,
                 (), (1,), [], [1], {}, {1}, b"1", object(), int)
        for number, entry in enumerate(wrong):
            for length in (1, 2, 3, 6):
                for place in sorted({0, length // 2, length - 1}):
                    for fill in (1, 7, 20):
                        numbers = [fill] * length
                        numbers[place] = entry
                        with self.subTest(number=number, length=length, place=place):
                            self.assert_bad(numbers)

    def test_wrong_everywhere(self):
        for entry in (0, 21, True, None, "1"):
            self.assert_bad([entry] * 6)
            self.assert_bad([entry] * 7)

    def test_what_is_refused_stays_as_it_was(self):
        for value in ([0, 1], [5, 21, 5], [3, True], [], [1] * 7, [[1], [2]], {1: [2]}, [1, None, {2: [3]}]):
            before = copy.deepcopy(value)
            self.assert_bad(value)
            self.assertEqual(value, before)

    def test_it_is_no_other_refusal(self):
        with self.assertRaises(BadList) as caught:
            all_sums([0])
        self.assertNotIsInstance(caught.exception, (BadForm, TooLong))

    def test_nothing_is_kept(self):
        numbers = [4, 7]
        first = all_sums(numbers)
        self.assert_bad([4, 7, 0])
        self.assertEqual(all_sums(numbers), first)
        numbers.append(2)
        self.assertEqual(all_sums(numbers), all_sums([2, 4, 7]))
        self.assertEqual(all_sums([4, 7]), first)
        self.assertEqual(numbers, [4, 7, 2])

    def test_name_of_the_argument(self):
        self.assertEqual(all_sums(numbers=[2]), ((), (1, 0)))


if __name__ == "__main__":
    unittest.main()
