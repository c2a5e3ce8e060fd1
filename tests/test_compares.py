"""Promise [11]: the first day by which two pulses differ, and pulses that lie within others."""

import unittest
from math import lcm

from pulsebook.compares import differ, within
from pulsebook.pulses import always, checked, made, never
from pulsebook.sets import both, either
from tests.helper import at, days_below, every, figures, forms, just, some_forms, turned

SMALL = sorted({made(form) for form in forms(2, 3)})


def looked_at(one, two):
    return max(len(one[0]), len(two[0])) + lcm(len(one[1]), len(two[1]))


class Differ(unittest.TestCase):

    def assert_differ(self, one, two, day):
        checked(one)
        checked(two)
        self.assertEqual(differ(one, two), day)
        self.assertEqual(differ(two, one), day)

    def assert_day_by_day(self, one, two):
        length = looked_at(one, two)
        pairs = enumerate(zip(figures(one, length), figures(two, length)))
        self.assert_differ(one, two, next((day for day, (mine, theirs) in pairs if mine != theirs), None))

    def test_small_pulses(self):
        for one in SMALL:
            for two in SMALL:
                self.assert_day_by_day(one, two)

    def test_long_pulses(self):
        pulses = [made(form) for form in some_forms(59, 6, 400, 200)] + [at(199, 198), at(200, 199), at(198, 197)]
        for one in pulses:
            for two in pulses:
                self.assert_day_by_day(one, two)

    def test_the_same(self):
        for pulse in SMALL + [made(form) for form in some_forms(61, 20, 400, 200)]:
            self.assertIsNone(differ(pulse, pulse))
            again = (tuple(list(pulse[0])), tuple(list(pulse[1])))
            self.assert_differ(pulse, again, None)

    def test_in_the_head(self):
        self.assert_differ(never(), just(0), 0)
        self.assert_differ(just(3), just(2), 2)
        self.assert_differ(just(3), just(3, 399), 399)
        self.assert_differ(((0, 1, 0), (0, 1)), ((0, 0, 0), (0, 1)), 1)
        self.assert_differ(((1,) * 400, (0,)), ((1,) * 399, (0,)), 399)

    def test_in_the_head_of_one_and_the_bar_of_the_other(self):
        self.assert_differ(always(), ((1,) * 400, (0,)), 400)
        self.assert_differ(((), (0, 1)), ((0, 1, 0, 1, 1), (1, 0)), 4)
        self.assert_differ(((), (0, 1)), ((0, 1, 0, 1, 0, 0), (0, 1)), 5)

    def test_first_behind_both_heads(self):
        self.assert_differ(((1, 0), (0, 1)), ((1, 0), (0, 0, 1)), 3)
        self.assert_differ(((1, 1), (0, 1, 0)), ((1,), (1, 0, 1, 1, 0)), 4)
        self.assert_differ(((0,) * 400, at(200, 199)[1]), ((0,) * 300, at(199, 198)[1]), 498)
        self.assert_differ(((0,) * 400, at(200, 199)[1]), never(), 599)

    def test_first_after_several_bars(self):
        self.assert_differ(((), (0, 1)), ((), (0, 1) * 99 + (1, 1)), 198)
        self.assert_differ(((), (0, 1)), ((), (0, 1) * 99 + (0, 0)), 199)
        self.assert_differ(((1,) * 400, (0, 1, 0)), ((1,) * 400, (0, 1, 0) * 66 + (0, 0)), 599)
        self.assert_differ(always(), turned(at(200, 199)), 199)

    def test_first_after_several_bars_of_both(self):
        # Bars of a and b without a common divisor may go together for a + b - 2 days, and no longer.
        bar, longer = (0,), (0, 1)
        while len(longer) < 150:
            self.assert_day_by_day(((), bar), ((), longer))
            self.assert_differ(((), bar), ((), longer), len(bar) + len(longer) - 2)
            bar, longer = longer, longer + bar
        self.assert_differ(((), at(199, 198)[1]), ((), at(200, 198)[1]), 397)


class Within(unittest.TestCase):

    def assert_within(self, one, two, wanted):
        checked(one)
        checked(two)
        self.assertIs(within(one, two), wanted)

    def assert_day_by_day(self, one, two):
        length = looked_at(one, two)
        self.assert_within(one, two, set(days_below(one, length)) <= set(days_below(two, length)))

    def test_small_pulses(self):
        for one in SMALL:
            for two in SMALL:
                self.assert_day_by_day(one, two)

    def test_long_pulses(self):
        pulses = [made(form) for form in some_forms(67, 5, 400, 40)]
        pulses += [at(199, 3), at(40, 7), turned(at(160, 99)), just(3, 202, 399)]
        for one in pulses:
            for two in pulses:
                self.assert_day_by_day(one, two)

    def test_the_same(self):
        for pulse in SMALL + [made(form) for form in some_forms(71, 20, 400, 200)]:
            self.assert_within(pulse, pulse, True)

    def test_never_and_always(self):
        for pulse in SMALL + [made(form) for form in some_forms(73, 20, 400, 200)]:
            self.assert_within(never(), pulse, True)
            self.assert_within(pulse, always(), True)
            self.assert_within(pulse, never(), pulse == never())
            self.assert_within(always(), pulse, pulse == always())

    def test_with_fewer_days_and_with_more(self):
        for one in SMALL:
            for two in SMALL:
                self.assert_within(both(one, two), one, True)
                self.assert_within(one, either(one, two), True)
        self.assert_within(every(6), every(3), True)
        self.assert_within(every(3), every(6), False)
        self.assert_within(every(200), every(2), True)
        self.assert_within(just(0, 399), every(3), True)

    def test_with_one_day_more(self):
        pulse = checked(((0, 1) * 100, (1, 0, 0)))
        for day in (0, 100, 198, 201, 202, 396, 399):
            days = figures(pulse, 403)
            self.assertEqual(days[day], 0)
            days[day] = 1
            longer = made((tuple(days[:400]), tuple(days[400:])))
            self.assert_within(pulse, longer, True)
            self.assert_within(longer, pulse, False)
            self.assertEqual(differ(pulse, longer), day)

    def test_in_the_head_alone(self):
        self.assert_within(just(3), just(3, 5), True)
        self.assert_within(just(3, 5), just(3), False)
        self.assert_within(((1,), (1, 0)), ((), (0, 1)), False)
        self.assert_within(((), (0, 1)), ((1,), (1, 0)), True)
        self.assert_within(((1,) * 400, (0,)), ((1,) * 400, (1, 0)), True)
        self.assert_within(((1,) * 400, (0,)), ((1,) * 399 + (0,), (1,)), False)

    def test_neither_way(self):
        self.assert_within(every(2), every(3), False)
        self.assert_within(every(3), every(2), False)

    def test_where_the_days_together_would_be_too_long(self):
        self.assert_within(every(199), every(200), False)
        self.assert_within(at(142, 0), turned(at(146, 1)), True)
        self.assert_within(turned(at(146, 1)), at(142, 0), False)
        self.assert_within(at(200, 0), turned(at(198, 1)), True)

    def test_a_day_more_that_comes_late(self):
        # Multiples of 199 leave 1 by 200 first at 199 * 199.
        self.assertEqual([day for day in range(0, 39800, 199) if day % 200 == 1], [39601])
        self.assert_within(every(199), turned(at(200, 1)), False)
        # At the very last day that both bars need to begin anew together, behind heads of 400 days.
        one, two = ((0,) * 400, at(199, 198)[1]), ((1,) * 400, turned(at(200, 199))[1])
        self.assertEqual([day for day in range(198, 39800, 199) if day % 200 == 199], [39799])
        self.assert_within(one, two, False)


class Handed(unittest.TestCase):

    def test_names_of_the_arguments(self):
        self.assertEqual(differ(one=always(), other=((), (1, 0))), 1)
        self.assertIs(within(one=((), (1, 0)), other=always()), True)
        self.assertIs(within(other=((), (1, 0)), one=always()), False)

    def test_the_same_answer_each_time(self):
        one, two = ((1, 1), (0, 1, 0)), ((), (1, 0))
        first = (differ(one, two), within(one, two))
        self.assertEqual((differ(never(), always()), within(never(), always())), (0, True))
        self.assertEqual((differ(one, two), within(one, two)), first)
        self.assertEqual((one, two), (((1, 1), (0, 1, 0)), ((), (1, 0))))


if __name__ == "__main__":
    unittest.main()
