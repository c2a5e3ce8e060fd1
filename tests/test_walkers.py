"""Promises [1], [4] and [15]: the pulse of a walk, and a walk that tells a pulse."""

import copy
import unittest
from itertools import product
from random import Random

from pulsebook.errors import BadWalk, PulseError, TooLong
from pulsebook.pulses import always, checked, has, made, never
from pulsebook.walkers import walk_of, walked
from tests.helper import at, every, figures, forms, is_too_long, just, some_forms, tightest, turned


def places_one_by_one(steps, start, length):
    places = [start]
    while len(places) < length:
        places.append(steps[places[-1]])
    return places


def wanted_of(steps, marks, start):
    """The head and bar, however long; behind as many days as there are places, the walker goes round and round."""
    number = len(steps)
    places = places_one_by_one(steps, start, 3 * number)
    bar = next(days for days in range(1, number + 1) if places[number + days] == places[number])
    return tightest([marks[place] for place in places[:number + 2 * bar]], number, bar)


def ring(length):
    """Steps from each place to the next one, and from the last to the first."""
    return [(place + 1) % length for place in range(length)]


def line(length, back):
    """Steps from each place to the next one, and from the last to the place told."""
    return list(range(1, length)) + [back]


def all_walks(number):
    for steps in product(range(number), repeat=number):
        for marks in product((0, 1), repeat=number):
            for start in range(number):
                yield list(steps), list(marks), start


class Walked(unittest.TestCase):

    def assert_walked(self, steps, marks, start):
        """Tells whether the walk was refused."""
        wanted = wanted_of(steps, marks, start)
        if is_too_long(wanted):
            with self.assertRaises(TooLong):
                walked(steps, marks, start)
            return True
        answer = walked(steps, marks, start)
        self.assertEqual(checked(answer), answer)
        self.assertEqual(answer, wanted)
        return False

    def test_one_place(self):
        self.assertEqual(walked([0], [0], 0), never())
        self.assertEqual(walked([0], [1], 0), always())

    def test_each_small_walk(self):
        for number in (1, 2, 3):
            for steps, marks, start in all_walks(number):
                self.assertFalse(self.assert_walked(steps, marks, start))

    def test_written_out(self):
        self.assertEqual(walked([1, 0], [1, 0], 0), ((), (1, 0)))
        self.assertEqual(walked([1, 0], [1, 0], 1), ((), (0, 1)))
        self.assertEqual(walked([1, 2, 2], [1, 1, 0], 0), ((1, 1), (0,)))
        self.assertEqual(walked([1, 2, 2], [1, 1, 0], 2), never())
        self.assertEqual(walked([1, 2, 1], [1, 0, 1], 0), ((), (1, 0)))
        self.assertEqual(walked([1, 2, 3, 1], [1, 1, 0, 0], 0), ((1,), (1, 0, 0)))
        self.assertEqual(walked([3, 0, 4, 2, 3], [0, 1, 1, 0, 1], 1), ((1, 0), (0, 1, 1)))

    def test_walks_that_come_back_to_the_start(self):
        for length in (1, 2, 5, 12, 200):
            for start in sorted({0, 1 % length, length // 2, length - 1}):
                marks = [int(place == length // 3) for place in range(length)]
                self.assertFalse(self.assert_walked(ring(length), marks, start))
                self.assertFalse(self.assert_walked(ring(length), [1] + [0] * (length - 1), start))

    def test_walks_that_do_not_come_back(self):
        for length in (2, 5, 12, 30):
            for back in range(length):
                for start in range(length):
                    marks = [int(place % 3 == 1) for place in range(length)]
                    self.assertFalse(self.assert_walked(line(length, back), marks, start))

    def test_some_walks_from_each_start(self):
        draw = Random(103)
        for number in (4, 7, 13, 40):
            for _ in range(10):
                steps = [draw.randrange(number) for _ in range(number)]
                marks = [draw.randrange(2) for _ in range(number)]
                for start in range(number):
                    self.assertFalse(self.assert_walked(steps, marks, start))

    def test_400_places(self):
        draw = Random(107)
        steps = [draw.randrange(400) for _ in range(400)]
        marks = [draw.randrange(2) for _ in range(400)]
        for start in range(400):
            self.assertFalse(self.assert_walked(steps, marks, start))
        order = list(range(400))
        draw.shuffle(order)
        mixed = [order[(order.index(place) + 1) % 400] for place in range(400)]
        self.assertTrue(self.assert_walked(mixed, marks, 399))
        self.assertFalse(self.assert_walked(mixed, [order.index(place) % 2 for place in range(400)], 17))

    def test_places_that_are_never_come_to(self):
        marks = [0, 1, 1, 1]
        self.assertEqual(walked([0, 2, 3, 1], marks, 0), never())
        self.assertEqual(walked([0, 2, 3, 1], marks, 3), always())

    def test_days_of_many_figures(self):
        marks = [int(place in (3, 40, 99)) for place in range(100)]
        answer = walked(line(100, 30), marks, 0)
        for day in range(70 * 10 ** 39, 70 * 10 ** 39 + 140):
            self.assertIs(has(answer, day), 30 + (day - 30) % 70 in (40, 99))


class AtTheBounds(unittest.TestCase):

    def assert_walked(self, steps, marks, start, wanted):
        self.assertEqual(checked(wanted), wanted)
        self.assertEqual(walked(steps, marks, start), wanted)
        self.assertEqual(figures(wanted, 900), [marks[place] for place in places_one_by_one(steps, start, 900)])

    def assert_too_long(self, steps, marks, start):
        self.assertTrue(is_too_long(wanted_of(steps, marks, start)))
        with self.assertRaises(TooLong):
            walked(steps, marks, start)

    def test_a_bar_at_the_bound(self):
        self.assert_walked(ring(200), [1] + [0] * 199, 0, every(200))
        self.assert_walked(ring(200), [1] + [0] * 199, 1, at(200, 199))
        self.assert_too_long(ring(201), [1] + [0] * 200, 0)
        self.assert_too_long(ring(400), [1] + [0] * 399, 0)
        self.assert_too_long(ring(400), [0] * 399 + [1], 200)
        self.assert_too_long(line(400, 199), [0] * 399 + [1], 0)
        self.assert_walked(line(400, 200), [0] * 399 + [1], 0, ((0,) * 200, at(200, 199)[1]))

    def test_a_long_walk_whose_pulse_is_not(self):
        self.assert_walked(ring(400), ([1] + [0] * 199) * 2, 0, every(200))
        self.assert_walked(ring(400), [0, 1] * 200, 0, ((), (0, 1)))
        self.assert_walked(ring(400), [1] * 400, 7, always())
        self.assert_walked(ring(399), [1, 0, 0] * 133, 2, ((), (0, 1, 0)))
        self.assert_walked(line(400, 1), [0] + [1] * 399, 0, ((0,), (1,)))

    def test_a_head_at_the_bound(self):
        self.assert_walked(line(400, 399), [0] * 398 + [1, 0], 0, just(398))
        self.assert_walked(line(400, 399), [0] * 399 + [1], 0, ((0,) * 399, (1,)))
        self.assert_walked(line(400, 399), [1] * 399 + [0], 0, ((1,) * 399, (0,)))
        self.assert_walked(line(400, 399), [1] * 399 + [0], 399, never())

    def test_a_start_behind_what_is_too_long(self):
        steps = line(250, 0) + [250]
        marks = [1] + [0] * 250
        self.assert_too_long(steps, marks, 0)
        self.assert_too_long(steps, marks, 249)
        self.assert_walked(steps, marks, 250, never())


class NoWalk(unittest.TestCase):

    NO_LISTS = (None, True, False, 0, 1, 10 ** 5000, 1.5, "", "0", "00", b"0", (), (0,), (0, 0), {}, {0: 0}, {0},
                range(1), iter([0]), object(), list, walked)

    NO_NUMBERS = (True, False, None, "0", "1", "", "a", 0.0, 1.0, 1j, b"0", (), (0,), [], [0], {}, {0}, object(), int,
                  10 ** 5000, -10 ** 5000, -1, -2)

    def assert_bad(self, steps, marks, start):
        with self.assertRaises(BadWalk) as caught:
            walked(steps, marks, start)
        self.assertIsInstance(caught.exception, PulseError)
        self.assertNotIsInstance(caught.exception, TooLong)

    def test_no_lists(self):
        for value in self.NO_LISTS:
            with self.subTest(kind=type(value)):
                self.assert_bad(value, [0], 0)
                self.assert_bad(value, [0, 0], 0)
                self.assert_bad([0], value, 0)
                self.assert_bad([0, 0], value, 0)
                self.assert_bad(value, value, 0)
                self.assert_bad(value, value, value)

    def test_none_and_401_places(self):
        self.assert_bad([], [], 0)
        self.assert_bad([], [0], 0)
        self.assert_bad([], [], None)
        for number in (401, 402, 1000):
            self.assert_bad([0] * number, [0] * number, 0)
            self.assert_bad(ring(number), [1] * number, number - 1)
        self.assertEqual(walked([0] * 400, [0] * 400, 0), never())

    def test_more_and_fewer_marks(self):
        for number in (1, 2, 5, 399, 400):
            for marks in (0, number - 1, number + 1, 2 * number, 401):
                if marks != number:
                    with self.subTest(number=number, marks=marks):
                        self.assert_bad([0] * number, [0] * marks, 0)
                        self.assert_bad(ring(number), [1] * marks, number - 1)

    def with_entry(self, entries, place, entry):
        changed = list(entries)
        changed[place] = entry
        return changed

    def test_a_wrong_step_anywhere(self):
        for number in (1, 2, 3, 400):
            for entry in self.NO_NUMBERS + (number, number + 1, 400, 401):
                for place in sorted({0, number // 2, number - 1}):
                    for start in sorted({0, number - 1}):
                        with self.subTest(number=number, kind=type(entry), place=place, start=start):
                            self.assert_bad(self.with_entry(ring(number), place, entry), [0] * number, start)

    def test_a_wrong_mark_anywhere(self):
        for number in (1, 2, 3, 400):
            for entry in self.NO_NUMBERS + (2, 3):
                for place in sorted({0, number // 2, number - 1}):
                    for start in sorted({0, number - 1}):
                        with self.subTest(number=number, kind=type(entry), place=place, start=start):
                            self.assert_bad(ring(number), self.with_entry([1] * number, place, entry), start)

    def test_a_wrong_start(self):
        for number in (1, 2, 3, 400):
            for start in self.NO_NUMBERS + (number, number + 1, 400, 401):
                with self.subTest(number=number, kind=type(start)):
                    self.assert_bad(ring(number), [1] * number, start)
            self.assertEqual(walked(ring(number), [1] * number, number - 1), always())

    def test_wrong_where_the_walker_never_comes(self):
        for entry in (-1, 3, True, None, "0"):
            self.assert_bad([0, entry, 0], [0, 0, 0], 0)
            self.assert_bad([0, 0, 0], [0, entry, 0], 0)

    def test_no_walk_is_told_ahead_of_too_long(self):
        for entry in (-1, True, None, "0"):
            self.assert_bad(ring(250) + [entry], [1] + [0] * 250, 0)
            self.assert_bad(ring(250) + [0], [1] + [0] * 249 + [entry], 0)

    def test_the_lists_stay_as_they_were(self):
        for steps, marks, start in (([1, 2, 0], [1, 0, 0], 2), (ring(250), [1] + [0] * 249, 3), ([0], [0], 1),
                                    ([1, 2, 3], [0, 0, 0], 0), ([0, 0], [0, 2], 0), ([], [], 0),
                                    ([0, None], [True, {1: [2]}], 0)):
            before = copy.deepcopy((steps, marks))
            try:
                walked(steps, marks, start)
            except PulseError:
                pass
            self.assertEqual((steps, marks), before)
            self.assertEqual([type(entry) for entry in marks], [type(entry) for entry in before[1]])

    def test_one_list_for_both(self):
        both = [1, 0]
        self.assertEqual(walked(both, both, 0), ((), (1, 0)))
        self.assertEqual(both, [1, 0])

    def test_nothing_is_kept(self):
        steps, marks = [1, 0], [1, 0]
        first = walked(steps, marks, 0)
        self.assert_bad([1, 0], [1, 2], 0)
        self.assertEqual(walked(steps, marks, 0), first)
        marks[1] = 1
        self.assertEqual(walked(steps, marks, 0), always())
        steps.clear()
        self.assert_bad(steps, marks, 0)
        self.assertEqual(walked([1, 0], [1, 0], 0), first)

    def test_names_of_the_arguments(self):
        self.assertEqual(walked(start=1, marks=[1, 0], steps=[1, 0]), ((), (0, 1)))


class WalkOf(unittest.TestCase):

    def assert_told(self, pulse):
        checked(pulse)
        head, bar = pulse
        walk = walk_of(pulse)
        self.assertIs(type(walk), tuple)
        steps, marks = walk
        number = len(head) + len(bar)
        self.assertIs(type(steps), list)
        self.assertIs(type(marks), list)
        self.assertEqual(steps, line(number, len(head)))
        self.assertEqual(marks, list(head + bar))
        days = number + 2 * len(bar)
        self.assertEqual([marks[place] for place in places_one_by_one(steps, 0, days)], figures(pulse, days))
        if number <= 400:
            self.assertEqual(walked(steps, marks, 0), pulse)
        else:
            with self.assertRaises(BadWalk):
                walked(steps, marks, 0)

    def test_written_out(self):
        self.assertEqual(walk_of(never()), ([0], [0]))
        self.assertEqual(walk_of(always()), ([0], [1]))
        self.assertEqual(walk_of(((), (1, 0, 0))), ([1, 2, 0], [1, 0, 0]))
        self.assertEqual(walk_of(((1, 0, 1), (0, 1, 0))), ([1, 2, 3, 4, 5, 3], [1, 0, 1, 0, 1, 0]))
        self.assertEqual(walk_of(just(1)), ([1, 2, 2], [0, 1, 0]))

    def test_small_pulses(self):
        for pulse in sorted({made(form) for form in forms(4, 4)}):
            self.assert_told(pulse)

    def test_long_pulses(self):
        for form in some_forms(109, 30, 400, 200):
            self.assert_told(made(form))

    def test_at_the_bounds(self):
        self.assert_told(((1,) * 399, (0,)))
        self.assert_told(((0,) * 200, at(200, 199)[1]))
        self.assert_told(((0,) * 200 + (1,), at(199, 0)[1]))
        self.assert_told(((0,) * 200 + (1,), at(200, 0)[1]))
        self.assert_told(((1,) * 400, (0,)))
        self.assert_told(((1,) * 400, turned(at(200, 199))[1]))
        self.assertEqual(len(walk_of(((1,) * 400, every(200)[1]))[0]), 600)

    def test_no_walk_has_fewer_places(self):
        fewest = {}
        for number in (1, 2, 3, 4):
            for steps, marks, start in all_walks(number):
                fewest.setdefault(walked(steps, marks, start), number)
        self.assertEqual(set(fewest), {pulse for pulse in map(made, forms(3, 4)) if len(pulse[0] + pulse[1]) <= 4})
        for pulse, number in fewest.items():
            self.assertEqual(len(walk_of(pulse)[0]), number)

    def test_new_lists_each_time(self):
        pulse = checked(((1, 0, 1), (0, 1, 0)))
        first = walk_of(pulse)
        kept = copy.deepcopy(first)
        first[0].clear()
        first[1].clear()
        self.assertEqual(walk_of(pulse), kept)
        walk_of(never())[0].append(5)
        walk_of(never())[1].append(5)
        self.assertEqual(walk_of(never()), ([0], [0]))
        for part in (0, 1):
            self.assertIsNot(walk_of(pulse)[part], walk_of(pulse)[part])
        self.assertIsNot(walk_of(never())[0], walk_of(never())[1])

    def test_name_of_the_argument(self):
        self.assertEqual(walk_of(pulse=never()), ([0], [0]))


if __name__ == "__main__":
    unittest.main()
