"""Promises [4] and [6]: pulses moved later and earlier, stretched and shrunk."""

import unittest

from pulsebook.errors import TooLong
from pulsebook.moves import earlier, later, shrunk, stretched
from pulsebook.pulses import always, checked, has, made, never
from tests.helper import at, days_below, every, figures, forms, is_too_long, just, some_forms, tightest


def wanted_days(move, pulse, n, length):
    """The days below `length` that the words of [6] give, one by one from the days of the pulse."""
    if move is later:
        return {day + n for day in days_below(pulse, length) if day + n < length}
    if move is earlier:
        return {day - n for day in days_below(pulse, length + n) if day >= n}
    if move is stretched:
        return {n * day for day in days_below(pulse, length) if n * day < length}
    return {day // n for day in days_below(pulse, n * length) if day % n == 0}


def wanted_pulse(move, pulse, n):
    """The head and bar, however long, of the moved days."""
    head, bar = len(pulse[0]), len(pulse[1])
    if move is later:
        head += n
    if move is stretched:
        head, bar = n * head, n * bar
    days = wanted_days(move, pulse, n, head + 2 * bar)
    return tightest([int(day in days) for day in range(head + 2 * bar)], head, bar)


SMALL = sorted({made(form) for form in forms(2, 3)})

# With a head, without one, without days behind the head, with none at all and with all.
SOME = [never(), always(), just(0), just(3), just(1, 2, 5), ((), (1, 0)), ((), (0, 0, 1)), ((0,), (1,)),
        ((1, 1, 0), (0, 1, 1)), ((0, 1), (0, 0, 1, 0)), ((1,) * 9, (0, 1, 1, 1, 0))]

MOVES = ((later, 0), (earlier, 0), (stretched, 1), (shrunk, 1))


class DayByDay(unittest.TestCase):

    def assert_moved(self, move, pulse, n):
        """Tells whether the move was refused."""
        wanted = wanted_pulse(move, pulse, n)
        if is_too_long(wanted):
            with self.assertRaises(TooLong):
                move(pulse, n)
            return True
        answer = move(pulse, n)
        self.assertEqual(checked(answer), answer)
        self.assertEqual(answer, wanted)
        return False

    def assert_days(self, move, pulse, n, length):
        days = wanted_days(move, pulse, n, length)
        self.assertEqual(figures(move(pulse, n), length), [int(day in days) for day in range(length)])

    def test_small_pulses_by_few_days(self):
        for move, least in MOVES:
            for n in range(least, 9):
                for pulse in SMALL:
                    self.assertFalse(self.assert_moved(move, pulse, n))
                    self.assert_days(move, pulse, n, 60)

    def test_some_pulses(self):
        for move, least in MOVES:
            for n in (least, 1, 2, 3, 7, 10, 12):
                for pulse in SOME:
                    self.assertFalse(self.assert_moved(move, pulse, n))

    def test_by_400_days(self):
        refused = 0
        for move, _ in MOVES:
            for n in (399, 400):
                for pulse in SOME:
                    with self.subTest(move=move.__name__, n=n, pulse=pulse):
                        refused += self.assert_moved(move, pulse, n)
        self.assertGreater(refused, 20)

    def test_earlier_and_shrunk_by_400_days_are_told(self):
        for pulse in SOME + [made(form) for form in some_forms(13, 10, 400, 200)]:
            for move in (earlier, shrunk):
                answer = move(pulse, 400)
                self.assertEqual(checked(answer), answer)
                self.assert_days(move, pulse, 400, 450)

    def test_long_pulses(self):
        refused = 0
        for move, least in MOVES:
            for pulse in [made(form) for form in some_forms(17, 12, 400, 40)]:
                for n in (least, 1, 2, 5, 20):
                    refused += self.assert_moved(move, pulse, n)
        self.assertGreater(refused, 20)

    def test_days_of_many_figures(self):
        many, pulse = 10 ** 39, ((1, 0, 1), (0, 1, 1, 0, 0, 0, 1))
        for day in range(7 * many, 7 * many + 30):
            for n in (1, 5, 12):
                self.assertIs(has(later(pulse, n), day), has(pulse, day - n))
                self.assertIs(has(earlier(pulse, n), day), has(pulse, day + n))
                self.assertIs(has(stretched(pulse, n), day), day % n == 0 and has(pulse, day // n))
                self.assertIs(has(shrunk(pulse, n), day), has(pulse, n * day))

    def test_written_out(self):
        self.assertEqual(later(always(), 2), ((0, 0), (1,)))
        self.assertEqual(later(((), (1, 0)), 1), ((), (0, 1)))
        self.assertEqual(later(((), (1, 0)), 2), ((0,), (0, 1)))
        self.assertEqual(later(just(0, 2), 1), ((0, 1, 0, 1), (0,)))
        self.assertEqual(earlier(((1, 0), (0, 1, 1)), 1), ((0,), (0, 1, 1)))
        self.assertEqual(earlier(((1, 0), (0, 1, 1)), 3), ((), (1, 1, 0)))
        self.assertEqual(earlier(just(0, 1, 5), 2), just(3))
        self.assertEqual(earlier(just(5), 6), never())
        self.assertEqual(stretched(always(), 3), ((), (1, 0, 0)))
        self.assertEqual(stretched(((0,), (1,)), 2), ((0,), (0, 1)))
        self.assertEqual(stretched(just(0, 2), 3), just(0, 6))
        self.assertEqual(shrunk(((), (1, 0, 0)), 2), ((), (1, 0, 0)))
        self.assertEqual(shrunk(((), (1, 0, 0, 0, 0, 0)), 3), ((), (1, 0)))
        self.assertEqual(shrunk(((), (1, 0)), 2), always())
        self.assertEqual(shrunk(((), (0, 1)), 2), never())
        self.assertEqual(shrunk(just(0, 3, 6, 7), 3), just(0, 1, 2))

    def test_by_nothing(self):
        for pulse in SOME + [made(form) for form in some_forms(19, 10, 400, 200)]:
            for move, least in MOVES:
                self.assertEqual(move(pulse, least), pulse)

    def test_never(self):
        for move, least in MOVES:
            for n in (least, 1, 2, 399, 400):
                self.assertEqual(move(never(), n), never())

    def test_always(self):
        for n in (1, 2, 399, 400):
            self.assertEqual(later(always(), n), ((0,) * n, (1,)))
            self.assertEqual(earlier(always(), n), always())
            self.assertEqual(shrunk(always(), n), always())
        for n in (1, 2, 199, 200):
            self.assertEqual(stretched(always(), n), every(n))


class Bounds(unittest.TestCase):

    def assert_too_long(self, move, pulse, n):
        checked(pulse)
        with self.assertRaises(TooLong):
            move(pulse, n)

    def assert_told(self, move, pulse, n, wanted):
        checked(pulse)
        self.assertEqual(move(pulse, n), wanted)
        self.assertEqual(checked(wanted), wanted)

    def test_later_by_the_head(self):
        self.assert_told(later, always(), 400, ((0,) * 400, (1,)))
        self.assert_told(later, just(0), 399, just(399))
        self.assert_told(later, just(199), 200, just(399))
        self.assert_told(later, ((1,) * 200, (0,)), 200, ((0,) * 200 + (1,) * 200, (0,)))
        self.assert_too_long(later, just(0), 400)
        self.assert_too_long(later, just(199), 201)
        self.assert_too_long(later, just(399), 1)
        self.assert_too_long(later, ((1,), (1, 0)), 400)
        self.assert_too_long(later, ((1,) * 400, (0,)), 400)

    def test_later_with_a_head_that_is_not_needed(self):
        self.assert_told(later, at(200, 150), 250, ((0,) * 201, at(200, 199)[1]))
        self.assert_told(later, ((0,) * 100, at(200, 199)[1]), 300, ((0,) * 400, at(200, 199)[1]))
        self.assert_too_long(later, ((0,) * 100, at(200, 199)[1]), 301)
        self.assert_told(later, ((0,) * 99, (1,)), 301, ((0,) * 400, (1,)))

    def test_stretched_by_the_bar(self):
        self.assert_told(stretched, ((), (1, 0)), 100, every(200))
        self.assert_told(stretched, every(40), 5, every(200))
        self.assert_told(stretched, ((), (1, 1, 0, 1)), 50, ((), tuple(int(day in (0, 50, 150)) for day in range(200))))
        self.assert_too_long(stretched, ((), (1, 0)), 101)
        self.assert_too_long(stretched, always(), 201)
        self.assert_too_long(stretched, always(), 400)
        self.assert_too_long(stretched, every(67), 3)
        self.assert_too_long(stretched, every(200), 2)
        self.assert_too_long(stretched, ((1,) * 400, every(200)[1]), 400)

    def test_stretched_by_the_head(self):
        self.assert_told(stretched, just(1), 399, just(399))
        self.assert_told(stretched, just(0, 3), 133, just(0, 399))
        self.assert_told(stretched, just(57), 7, just(399))
        self.assert_told(stretched, ((0,) * 4, (1,)), 133, ((0,) * 400, at(133, 132)[1]))
        self.assert_too_long(stretched, just(1), 400)
        self.assert_too_long(stretched, just(3), 134)
        self.assert_too_long(stretched, just(57), 8)
        self.assert_too_long(stretched, just(399), 2)
        self.assert_too_long(stretched, ((0,) * 4, (1,)), 134)

    def test_the_longest_pulses_that_are_not_too_long(self):
        longest = checked(((0,) * 399 + (1,), every(200)[1]))
        self.assertEqual(later(longest, 0), longest)
        self.assertEqual(stretched(longest, 1), longest)
        self.assertEqual(earlier(longest, 400), every(200))
        self.assertEqual(shrunk(longest, 200), ((0, 0), (1,)))

    def test_somewhat_beyond_400(self):
        for n in (401, 450, 1000):
            self.assertEqual(later(never(), n), never())
            self.assertEqual(earlier(((1,) * 400, (0, 1)), n), ((), (1, 0)) if n % 2 == 1 else ((), (0, 1)))
            self.assertEqual(stretched(just(0), n), just(0))
            self.assertEqual(shrunk(always(), n), always())
        self.assertEqual(later(((), (1, 0)), 401), ((0,) * 400, (0, 1)))


class Undone(unittest.TestCase):

    def test_later_and_earlier(self):
        for pulse in SMALL + SOME:
            for n in (0, 1, 2, 5, 100, 390):
                self.assertEqual(earlier(later(pulse, n), n), pulse)

    def test_stretched_and_shrunk(self):
        for pulse in SMALL + SOME:
            for n in (1, 2, 5, 12, 40):
                self.assertEqual(shrunk(stretched(pulse, n), n), pulse)
        for n in (1, 2, 400):
            self.assertEqual(shrunk(stretched(just(0), n), n), just(0))

    def test_earlier_loses_the_days_ahead(self):
        for pulse in SMALL + SOME:
            for n in (1, 2, 5):
                kept = tuple(0 if day < n else entry for day, entry in enumerate(figures(pulse, 20)))
                bar = tuple(figures(pulse, 20 + len(pulse[1]))[20:])
                self.assertEqual(later(earlier(pulse, n), n), made((kept, bar)))

    def test_moved_twice(self):
        for pulse in SMALL:
            self.assertEqual(later(later(pulse, 3), 4), later(pulse, 7))
            self.assertEqual(earlier(earlier(pulse, 3), 4), earlier(pulse, 7))
            self.assertEqual(stretched(stretched(pulse, 2), 3), stretched(pulse, 6))
            self.assertEqual(shrunk(shrunk(pulse, 2), 3), shrunk(pulse, 6))


class Handed(unittest.TestCase):

    def test_names_of_the_arguments(self):
        for move, _ in MOVES:
            self.assertEqual(move(pulse=((1,), (0, 1, 1)), n=2), move(((1,), (0, 1, 1)), 2))

    def test_the_same_answer_each_time(self):
        pulse = ((1, 1), (0, 1, 0))
        first = [move(pulse, 3) for move, _ in MOVES]
        with self.assertRaises(TooLong):
            later(just(399), 1)
        self.assertEqual([move(pulse, 3) for move, _ in MOVES], first)
        self.assertEqual(pulse, ((1, 1), (0, 1, 0)))


if __name__ == "__main__":
    unittest.main()
