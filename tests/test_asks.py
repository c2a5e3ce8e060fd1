"""Promises [1], [9] and [10]: pulses asked for days, for how many there are, and for how they go on."""

import unittest

from pulsebook.asks import count, day_at, ends, greatest, is_empty, last_day, longest_gap, next_day
from pulsebook.pulses import always, checked, has, made, never
from tests.helper import at, days_below, every, figure, forms, just, some_forms

SMALL = sorted({made(form) for form in forms(3, 4)})
LONG = [made(form) for form in some_forms(53, 12, 400, 200)] + [
    checked(pulse) for pulse in (((0,) * 399 + (1,), (0,)), ((0,) * 399 + (1,), every(200)[1]), ((1,) * 400, (0,)),
                                 at(200, 199), at(200, 0), ((1,), at(200, 150)[1]), ((0,) * 400, (1,)))]

FORTY = (10 ** 39, 10 ** 40 - 1, 1234567890123456789012345678901234567890, 3 * 10 ** 39 + 1)


class DayByDay(unittest.TestCase):

    def assert_asked(self, pulse, days, ahead):
        """Holds the answers against `ahead`, all days of the pulse below some day far behind the asked ones."""
        for day in days:
            self.assertEqual(next_day(pulse, day), min((one for one in ahead if one >= day), default=None))
            self.assertEqual(last_day(pulse, day), max((one for one in ahead if one < day), default=None))
            self.assertEqual(count(pulse, day), len([one for one in ahead if one < day]))

    def test_small_pulses(self):
        for pulse in SMALL:
            self.assert_asked(pulse, range(20), days_below(pulse, 30))

    def test_long_pulses(self):
        for pulse in LONG:
            self.assert_asked(pulse, range(0, 1100, 13), days_below(pulse, 1400))
            self.assert_asked(pulse, (398, 399, 400, 401, 599, 600, 601, 800), days_below(pulse, 1400))

    def test_day_at(self):
        for pulse in SMALL + LONG:
            days = days_below(pulse, 1400)
            for n, day in enumerate(days):
                self.assertEqual(day_at(pulse, n), day)
            if 1 not in pulse[1]:
                for n in (len(days), len(days) + 1, len(days) + 1000):
                    self.assertIsNone(day_at(pulse, n))

    def test_day_0(self):
        for pulse in SMALL + LONG:
            self.assertIsNone(last_day(pulse, 0))
            self.assertEqual(count(pulse, 0), 0)
            self.assertEqual(next_day(pulse, 0), day_at(pulse, 0))
            self.assertEqual(next_day(pulse, 0) == 0, has(pulse, 0))
            self.assertEqual(last_day(pulse, 1), 0 if has(pulse, 0) else None)
            self.assertEqual(count(pulse, 1), 1 if has(pulse, 0) else 0)

    def test_never(self):
        for day in (0, 1, 5, 400, 10 ** 39, 10 ** 400):
            self.assertIsNone(next_day(never(), day))
            self.assertIsNone(last_day(never(), day))
            self.assertEqual(count(never(), day), 0)
            self.assertIsNone(day_at(never(), day))

    def test_always(self):
        for day in (0, 1, 5, 400, 10 ** 39, 10 ** 400):
            self.assertEqual(next_day(always(), day), day)
            self.assertEqual(last_day(always(), day + 1), day)
            self.assertEqual(count(always(), day), day)
            self.assertEqual(day_at(always(), day), day)

    def test_written_out(self):
        pulse = ((0, 1, 1), (0, 0, 1, 0))
        self.assertEqual([next_day(pulse, day) for day in range(8)], [1, 1, 2, 5, 5, 5, 9, 9])
        self.assertEqual([last_day(pulse, day) for day in range(8)], [None, None, 1, 2, 2, 2, 5, 5])
        self.assertEqual([count(pulse, day) for day in range(11)], [0, 0, 1, 2, 2, 2, 3, 3, 3, 3, 4])
        self.assertEqual([day_at(pulse, n) for n in range(5)], [1, 2, 5, 9, 13])

    def test_a_pulse_that_ends(self):
        pulse = just(2, 4)
        self.assertEqual([next_day(pulse, day) for day in range(7)], [2, 2, 2, 4, 4, None, None])
        self.assertEqual([last_day(pulse, day) for day in range(7)], [None, None, None, 2, 2, 4, 4])
        self.assertEqual([count(pulse, day) for day in range(7)], [0, 0, 0, 1, 1, 2, 2])
        self.assertEqual([day_at(pulse, n) for n in range(4)], [2, 4, None, None])

    def test_counts_are_numbers(self):
        for pulse in SMALL:
            for day in range(10):
                self.assertIs(type(count(pulse, day)), int)


class ManyFigures(unittest.TestCase):

    def assert_far(self, pulse, far):
        """Days around `far` one by one: two bars each way hold a day wherever there is one."""
        bar, ones = len(pulse[1]), sum(pulse[1])
        around = [day for day in range(far - 2 * bar, far + 2 * bar) if figure(pulse, day) == 1]
        self.assertEqual(next_day(pulse, far), min(day for day in around if day >= far))
        self.assertEqual(last_day(pulse, far), max(day for day in around if day < far))
        bars, rest = divmod(far - len(pulse[0]), bar)
        self.assertEqual(count(pulse, far), len(days_below(pulse, len(pulse[0]) + rest)) + bars * ones)
        for step in (1, 2, 3, bar):
            self.assertEqual(count(pulse, far + step) - count(pulse, far),
                             sum(figure(pulse, far + more) for more in range(step)))

    def assert_number(self, pulse, n):
        day = day_at(pulse, n)
        self.assertIs(has(pulse, day), True)
        self.assertEqual(count(pulse, day), n)
        self.assertEqual(count(pulse, day + 1), n + 1)
        bars, rest = divmod(n - sum(pulse[0]), sum(pulse[1]))
        near = days_below(pulse, len(pulse[0]) + len(pulse[1]))[sum(pulse[0]) + rest]
        self.assertEqual(day, near + bars * len(pulse[1]))

    def test_pulses_that_go_on(self):
        for pulse in SMALL + LONG:
            if 1 in pulse[1]:
                for far in FORTY + (10 ** 400 + 7,):
                    for more in range(5):
                        self.assert_far(pulse, far + more)
                        self.assert_number(pulse, far + more)

    def test_pulses_that_end(self):
        for pulse in SMALL + LONG:
            if 1 not in pulse[1]:
                days = days_below(pulse, len(pulse[0]))
                for far in FORTY + (10 ** 400 + 7,):
                    self.assertIsNone(next_day(pulse, far))
                    self.assertEqual(last_day(pulse, far), max(days, default=None))
                    self.assertEqual(count(pulse, far), len(days))
                    self.assertIsNone(day_at(pulse, far))

    def test_written_out(self):
        many = 10 ** 39
        pulse = ((1, 1, 0), (0, 0, 1, 0, 0))
        self.assertEqual(next_day(pulse, 5 * many + 1), 5 * many + 5)
        self.assertEqual(next_day(pulse, 5 * many), 5 * many)
        self.assertEqual(last_day(pulse, 5 * many), 5 * many - 5)
        self.assertEqual(last_day(pulse, 5 * many + 1), 5 * many)
        self.assertEqual(count(pulse, 5 * many), many + 1)
        self.assertEqual(count(pulse, 5 * many + 1), many + 2)
        self.assertEqual(day_at(pulse, many), 5 * (many - 1))


class HowItGoesOn(unittest.TestCase):

    def test_ends_and_is_empty(self):
        for pulse in SMALL + LONG:
            self.assertIs(ends(pulse), days_below(pulse, 1000)[-1:] < [600])
            self.assertIs(is_empty(pulse), days_below(pulse, 1000) == [])
        self.assertIs(ends(never()), True)
        self.assertIs(ends(always()), False)
        self.assertIs(is_empty(never()), True)
        self.assertIs(is_empty(always()), False)
        self.assertIs(is_empty(just(0)), False)
        self.assertIs(is_empty(just(399)), False)
        self.assertIs(is_empty(at(200, 199)), False)
        self.assertIs(ends(just(399)), True)
        self.assertIs(ends(at(200, 199)), False)

    def test_greatest(self):
        for pulse in SMALL + LONG:
            days = days_below(pulse, 1000)
            wanted = None if days == [] or days[-1] >= 600 else days[-1]
            self.assertEqual(greatest(pulse), wanted)
        self.assertIsNone(greatest(never()))
        self.assertIsNone(greatest(always()))
        self.assertIsNone(greatest(((1,), (0, 1))))
        self.assertEqual(greatest(just(0)), 0)
        self.assertEqual(greatest(just(2, 7)), 7)
        self.assertEqual(greatest(just(399)), 399)

    def test_longest_gap_day_by_day(self):
        for pulse in SMALL + LONG:
            days = days_below(pulse, 1400)
            if 1 in pulse[1]:
                gap = longest = 0
                for day in range(days[0], 1400):
                    gap = 0 if figure(pulse, day) == 1 else gap + 1
                    longest = max(longest, gap)
                self.assertEqual(longest_gap(pulse), longest)
            else:
                self.assertIsNone(longest_gap(pulse))

    def test_longest_gap_of_pulses_that_end(self):
        for pulse in (never(), just(0), just(0, 5), just(399), ((1,) * 400, (0,))):
            self.assertIsNone(longest_gap(pulse))

    def test_no_gap(self):
        self.assertEqual(longest_gap(always()), 0)
        self.assertEqual(longest_gap(((0,) * 400, (1,))), 0)
        self.assertEqual(longest_gap(((0, 0, 1, 0), (1,))), 1)

    def test_a_gap_within_the_head(self):
        self.assertEqual(longest_gap(((1, 0, 0, 0, 1), (0, 1))), 3)
        self.assertEqual(longest_gap(((0, 0, 0, 0, 1, 0, 0, 1), (0, 1))), 2)

    def test_a_gap_from_the_head_into_the_bar(self):
        self.assertEqual(longest_gap(checked(((1, 0, 0), (0, 0, 1, 1)))), 4)
        self.assertEqual(longest_gap(checked(((1,) + (0,) * 399, at(200, 199)[1]))), 598)
        self.assertEqual(longest_gap(checked(((1, 0), (1, 1, 0, 1)))), 1)

    def test_a_gap_within_the_bar(self):
        self.assertEqual(longest_gap(checked(((1, 0), (1, 0, 0, 0, 1)))), 3)
        self.assertEqual(longest_gap(checked(((), (1, 0, 0, 1, 0)))), 2)

    def test_a_gap_from_a_bar_into_the_next(self):
        self.assertEqual(longest_gap(checked(((), (0, 0, 1, 1, 0)))), 3)
        self.assertEqual(longest_gap(checked(((1, 1), (0, 1, 1, 0, 0)))), 3)
        self.assertEqual(longest_gap(at(200, 0)), 199)
        self.assertEqual(longest_gap(at(200, 100)), 199)

    def test_a_first_day_in_the_bar(self):
        # The days ahead of the first one are no gap, however many.
        self.assertEqual(longest_gap(checked(((0,) * 400, (0, 1)))), 1)
        self.assertEqual(longest_gap(checked(((0,) * 50, (0, 0, 1, 0, 1)))), 2)
        self.assertEqual(longest_gap(at(7, 6)), 6)
        self.assertEqual(longest_gap(at(7, 0)), 6)


class Handed(unittest.TestCase):

    def test_names_of_the_arguments(self):
        pulse = ((1,), (0, 1, 1))
        self.assertEqual(next_day(pulse=pulse, day=1), 2)
        self.assertEqual(last_day(pulse=pulse, day=2), 0)
        self.assertEqual(count(pulse=pulse, day=3), 2)
        self.assertEqual(day_at(pulse=pulse, n=1), 2)
        self.assertEqual((greatest(pulse=pulse), longest_gap(pulse=pulse)), (None, 1))
        self.assertEqual((ends(pulse=pulse), is_empty(pulse=pulse)), (False, False))

    def test_the_same_answer_each_time(self):
        pulse = ((1, 1), (0, 1, 0))
        asked = (next_day, last_day, count, day_at)
        first = [ask(pulse, 10 ** 39) for ask in asked]
        self.assertEqual([ask(never(), 5) for ask in asked], [None, None, 0, None])
        self.assertEqual([ask(pulse, 10 ** 39) for ask in asked], first)
        self.assertEqual(pulse, ((1, 1), (0, 1, 0)))


if __name__ == "__main__":
    unittest.main()
