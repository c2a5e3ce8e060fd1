"""Promises [4] and [5]: days put together, and pulses that would be too long."""

import unittest
from math import lcm

from pulsebook.errors import TooLong
from pulsebook.pulses import always, checked, has, made, never
from pulsebook.sets import apart, both, either, less, other
from tests.helper import at, every, figures, forms, pulse_of_days, some_forms, turned

# Each function of two pulses, and what its words in [5] say of one day.
OF_TWO = {
    both: lambda mine, theirs: int(mine == 1 and theirs == 1),
    either: lambda mine, theirs: int(mine == 1 or theirs == 1),
    less: lambda mine, theirs: int(mine == 1 and theirs == 0),
    apart: lambda mine, theirs: int(mine != theirs),
}


class DayByDay(unittest.TestCase):

    def assert_put_together(self, put, one, two):
        answer = put(one, two)
        self.assertEqual(checked(answer), answer)
        length = max(len(one[0]), len(two[0])) + 2 * lcm(len(one[1]), len(two[1]))
        wanted = [OF_TWO[put](mine, theirs) for mine, theirs in zip(figures(one, length), figures(two, length))]
        self.assertEqual(figures(answer, length), wanted)

    def test_small_pulses(self):
        pulses = sorted({made(form) for form in forms(2, 3)})
        self.assertIn(never(), pulses)
        self.assertIn(always(), pulses)
        for put in OF_TWO:
            for one in pulses:
                for two in pulses:
                    self.assert_put_together(put, one, two)

    def test_long_heads_and_bars(self):
        pulses = [made(form) for form in some_forms(5, 8, 400, 14)] + [never(), always()]
        pulses += [((0,) * 399 + (1,), (0,)), ((1,) * 400, (0,)), ((0, 1) * 200, (1, 0, 0, 0))]
        for put in OF_TWO:
            for one in pulses:
                for two in pulses:
                    self.assert_put_together(put, one, two)

    def test_days_of_many_figures(self):
        many = 10 ** 1000
        one, two = ((1,), (0, 0, 1, 0)), ((), (0, 1, 1))
        for put, joined in OF_TWO.items():
            answer = put(one, two)
            for day in range(12 * many, 12 * many + 12):
                self.assertIs(has(answer, day), joined(has(one, day), has(two, day)) == 1)

    def test_written_out(self):
        self.assertEqual(both(((1, 1), (1, 0)), ((), (0, 1, 0))), ((0, 1), (0, 0, 1, 0, 0, 0)))
        self.assertEqual(either(((), (1, 0)), ((), (0, 1))), always())
        self.assertEqual(either(((), (1, 0)), ((), (1, 0, 0))), ((), (1, 0, 1, 1, 1, 0)))
        self.assertEqual(both(((), (1, 0)), ((), (1, 0, 0))), ((), (1, 0, 0, 0, 0, 0)))
        self.assertEqual(less(((), (1, 0)), ((), (1, 0, 0))), ((), (0, 0, 1, 0, 1, 0)))
        self.assertEqual(less(((), (1, 0, 0)), ((), (1, 0))), ((), (0, 0, 0, 1, 0, 0)))
        self.assertEqual(apart(((), (1, 0)), ((), (1, 0, 0))), ((), (0, 0, 1, 1, 1, 0)))
        self.assertEqual(less(always(), ((1, 0, 1), (0,))), ((0, 1, 0), (1,)))

    def test_with_never_and_always(self):
        for form in forms(3, 4):
            pulse = made(form)
            self.assertEqual(both(pulse, never()), never())
            self.assertEqual(both(pulse, always()), pulse)
            self.assertEqual(either(pulse, never()), pulse)
            self.assertEqual(either(pulse, always()), always())
            self.assertEqual(less(pulse, never()), pulse)
            self.assertEqual(less(pulse, always()), never())
            self.assertEqual(less(never(), pulse), never())
            self.assertEqual(less(always(), pulse), other(pulse))
            self.assertEqual(apart(pulse, never()), pulse)
            self.assertEqual(apart(pulse, always()), other(pulse))
            self.assertEqual(apart(pulse, pulse), never())
            self.assertEqual(either(pulse, other(pulse)), always())

    def test_a_head_that_is_no_more_needed(self):
        self.assertEqual(either(((0,) * 400, (1,)), ((1,) * 400, (0,))), always())
        self.assertEqual(both(((0,) * 400, (1,)), ((1,) * 400, (0,))), never())
        self.assertEqual(less(((0,) * 400, (1,)), ((0,) * 10, (1,))), never())

    def test_names_of_the_arguments(self):
        for put in OF_TWO:
            self.assertEqual(put(one=((), (1, 0)), other=never()), put(((), (1, 0)), never()))
        self.assertEqual(other(pulse=never()), always())


class Other(unittest.TestCase):

    def assert_other(self, pulse):
        answer = other(pulse)
        self.assertEqual(checked(answer), answer)
        self.assertEqual(answer, turned(pulse))
        for day in range(len(pulse[0]) + 2 * len(pulse[1])):
            self.assertIs(has(answer, day), not has(pulse, day))

    def test_small_pulses(self):
        for form in forms(3, 4):
            self.assert_other(made(form))

    def test_never_and_always(self):
        self.assertEqual(other(never()), always())
        self.assertEqual(other(always()), never())

    def test_the_longest_pulses(self):
        self.assert_other(((0,) * 399 + (1,), every(200)[1]))
        for form in some_forms(7, 20, 400, 200):
            self.assert_other(made(form))


class TooLongBars(unittest.TestCase):

    def assert_too_long(self, put, one, two):
        checked(one)
        checked(two)
        with self.assertRaises(TooLong):
            put(one, two)

    def test_just_within_the_bound(self):
        for put, joined in OF_TWO.items():
            for one, two in ((at(8, 0), at(25, 0)), (at(200, 0), at(200, 1)), (at(200, 3), at(40, 3)),
                             (at(200, 7), at(100, 8)), (at(199, 0), at(199, 1)), (at(2, 0), at(99, 5))):
                answer = put(one, two)
                self.assertEqual(answer, pulse_of_days(one, two, joined))
                self.assertEqual(checked(answer), answer)

    def test_a_bar_of_200_is_told(self):
        for put in OF_TWO:
            self.assertEqual(len(put(at(8, 0), at(25, 0))[1]), 200)

    def test_just_beyond_the_bound(self):
        for put in OF_TWO:
            for one, two in ((3, 67), (2, 101), (67, 3), (101, 2), (4, 51), (14, 15)):
                with self.subTest(put=put.__name__, one=one, two=two):
                    self.assert_too_long(put, at(one, 0), at(two, 0))

    def test_the_longest_bars(self):
        for put in OF_TWO:
            for one, two in ((200, 199), (199, 200), (200, 3), (200, 160), (150, 200)):
                with self.subTest(put=put.__name__, one=one, two=two):
                    self.assert_too_long(put, at(one, 0), at(two, 0))

    def test_with_heads(self):
        for put in OF_TWO:
            self.assert_too_long(put, ((1, 0, 1) * 100, at(67, 0)[1]), ((0,) * 399 + (1,), at(3, 0)[1]))

    def test_many_pulses(self):
        refused = 0
        pulses = [made(form) for form in some_forms(11, 24, 30, 40)]
        for put, joined in OF_TWO.items():
            for one, two in zip(pulses, pulses[1:] + pulses[:1]):
                wanted = pulse_of_days(one, two, joined)
                if len(wanted[1]) > 200:
                    refused += 1
                    self.assert_too_long(put, one, two)
                else:
                    self.assertEqual(put(one, two), wanted)
        self.assertGreater(refused, 10)


class InStepLate(unittest.TestCase):
    """Bars that go in step only behind 200 days, while the days together make no such long bar."""

    def test_days_that_never_meet(self):
        one, two = at(142, 0), at(146, 1)
        self.assertEqual(both(one, two), never())
        self.assertEqual(less(one, two), one)
        self.assertEqual(less(two, one), two)
        for put in (either, apart):
            with self.assertRaises(TooLong):
                put(one, two)

    def test_days_that_fill_all(self):
        one, two = turned(at(142, 0)), turned(at(146, 1))
        self.assertEqual(either(one, two), always())
        self.assertEqual(less(one, two), ((), at(146, 1)[1]))
        for put in (both, apart):
            with self.assertRaises(TooLong):
                put(one, two)

    def test_the_longest_bars(self):
        one, two = at(200, 0), at(198, 1)
        self.assertEqual(both(one, two), never())
        self.assertEqual(less(one, two), one)
        self.assertEqual(either(turned(one), turned(two)), always())

    def test_steps_that_cancel_out(self):
        eleven_thirteen = apart(at(11, 0), at(13, 4))
        thirteen_seven = apart(at(13, 4), at(7, 2))
        self.assertEqual((len(eleven_thirteen[1]), len(thirteen_seven[1])), (143, 91))
        self.assertEqual(apart(eleven_thirteen, thirteen_seven), apart(at(11, 0), at(7, 2)))
        self.assertEqual(len(apart(eleven_thirteen, thirteen_seven)[1]), 77)

    def test_a_part_within_a_bar(self):
        one = ((), tuple(int(day % 3 == 0 or day % 50 == 0) for day in range(150)))
        two = ((), tuple(int(day % 3 != 0 or day % 7 == 0) for day in range(21)))
        self.assertEqual(either(one, two), always())

    def test_with_heads(self):
        one, two = checked(((1,) * 400, at(142, 0)[1])), checked(((0, 1) * 150, at(146, 1)[1]))
        answer = both(one, two)
        self.assertEqual(checked(answer), answer)
        self.assertEqual(answer, ((0, 1) * 150 + (0, 1), (0,)))


class NothingKept(unittest.TestCase):

    def test_the_same_answer_each_time(self):
        one, two = ((1, 1), (0, 1, 0)), ((), (1, 0))
        first = [put(one, two) for put in OF_TWO] + [other(one)]
        with self.assertRaises(TooLong):
            either(at(200, 0), at(199, 0))
        self.assertEqual([put(one, two) for put in OF_TWO] + [other(one)], first)
        self.assertEqual((one, two), (((1, 1), (0, 1, 0)), ((), (1, 0))))


if __name__ == "__main__":
    unittest.main()
