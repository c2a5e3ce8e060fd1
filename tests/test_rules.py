"""Promises [1], [4], [12] and [13]: pulses made of rules, and told by rules again."""

import copy
import unittest
from itertools import permutations, product
from math import lcm
from random import Random

from pulsebook.errors import BadRule, PulseError, TooLong
from pulsebook.pulses import always, checked, has, made, never
from pulsebook.rules import from_rules, rules_of
from tests.helper import at, days_below, every, figures, forms, is_too_long, just, some_forms, tightest, turned


def in_rule(rule, day):
    start, step, times = rule
    number, rest = divmod(day - start, step)
    return number >= 0 and rest == 0 and (times is None or number < times)


def days_of(rules, length):
    return [int(any(in_rule(rule, day) for rule in rules)) for day in range(length)]


def behind(rules):
    """A day from which on none of the rules begins or ends."""
    return max(start if times is None else start + step * times for start, step, times in rules)


def pulse_of_days(rules, bar):
    head = behind(rules)
    return tightest(days_of(rules, head + 2 * bar), head, bar)


def wanted_of(rules):
    """The pulse, or None where a rule, or what there is with it, is too long."""
    so_far = never()
    for number, rule in enumerate(rules, 1):
        step = 1 if rule[2] is not None else rule[1]
        if is_too_long(pulse_of_days([rule], step)):
            return None
        so_far = pulse_of_days(rules[:number], lcm(step, len(so_far[1])))
        if is_too_long(so_far):
            return None
    return so_far


class FromRules(unittest.TestCase):

    def assert_from(self, rules):
        """Tells whether the rules were refused."""
        wanted = wanted_of(rules)
        if wanted is None:
            with self.assertRaises(TooLong):
                from_rules(rules)
            return True
        answer = from_rules(rules)
        self.assertEqual(checked(answer), answer)
        self.assertEqual(answer, wanted)
        return False

    def test_no_rule(self):
        self.assertEqual(from_rules([]), never())

    def test_one_rule(self):
        for start in range(6):
            for step in range(1, 6):
                for times in (None, 1, 2, 3, 4):
                    self.assertFalse(self.assert_from([(start, step, times)]))

    def test_two_rules(self):
        some = [(start, step, times) for start in (0, 1, 4) for step in (1, 2, 3) for times in (None, 1, 3)]
        for pair in product(some, repeat=2):
            self.assertFalse(self.assert_from(list(pair)))

    def test_several_rules(self):
        draw, refused = Random(79), 0
        for _ in range(150):
            rules = [(draw.randint(0, 40), draw.choice((2, 3, 4, 5, 6, 7, 8, 9, 10, 12, 15, 16, 30)),
                      draw.choice((None, None, 1, 9))) for _ in range(draw.randint(3, 7))]
            refused += self.assert_from(rules)
        self.assertGreater(refused, 5)
        self.assertLess(refused, 120)

    def test_twelve_rules(self):
        self.assertFalse(self.assert_from([(day * day, 1, 1) for day in range(12)]))
        self.assertFalse(self.assert_from([(place, 13, None) for place in range(12)]))
        self.assertFalse(self.assert_from([(place, 12, None) for place in range(12)]))
        self.assertEqual(from_rules([(place, 12, None) for place in range(12)]), always())
        self.assertFalse(self.assert_from([(place, 24, None) for place in range(0, 24, 2)]))
        self.assertFalse(self.assert_from([(30 * place, 7, 3) for place in range(12)]))
        self.assertEqual(from_rules([(5, 9, None)] * 12), at(9, 5))
        draw, refused = Random(83), 0
        for _ in range(40):
            rules = [(draw.randint(0, 30), draw.choice((8, 25, 40, 50, 100, 200)), draw.choice((None, 1, 2, 3)))
                     for _ in range(12)]
            refused += self.assert_from(rules)
        self.assertLess(refused, 40)

    def test_written_out(self):
        self.assertEqual(from_rules([(3, 1, 1)]), ((0, 0, 0, 1), (0,)))
        self.assertEqual(from_rules([(1, 2, 3)]), ((0, 1, 0, 1, 0, 1), (0,)))
        self.assertEqual(from_rules([(1, 2, None)]), ((), (0, 1)))
        self.assertEqual(from_rules([(2, 2, None)]), ((0,), (0, 1)))
        self.assertEqual(from_rules([(0, 1, None)]), always())
        self.assertEqual(from_rules([(0, 2, None), (1, 2, None)]), always())
        self.assertEqual(from_rules([(0, 3, None), (4, 1, 1)]), ((1, 0, 0, 1, 1), (0, 1, 0)))
        self.assertEqual(from_rules([(0, 3, 2), (6, 3, None)]), ((), (1, 0, 0)))

    def test_the_order_of_the_rules(self):
        rules = [(0, 6, None), (3, 4, None), (2, 1, 5), (20, 3, 4)]
        wanted = wanted_of(rules)
        for order in permutations(rules):
            self.assertEqual(from_rules(list(order)), wanted)

    def test_days_of_many_figures(self):
        answer = from_rules([(7, 12, None), (400, 9, None), (3, 5, 60)])
        for day in range(36 * 10 ** 39, 36 * 10 ** 39 + 72):
            self.assertIs(has(answer, day), day % 12 == 7 or day % 9 == 4)

    def test_many_rules_at_the_bounds(self):
        for start, step, times in product((0, 1, 199, 200, 399, 400), (1, 2, 199, 200), (1, 2, 3, 399, 400, None)):
            refused = times is not None and start + step * (times - 1) > 399
            self.assertIs(self.assert_from([(start, step, times)]), refused)


class AtTheBounds(unittest.TestCase):

    def assert_from(self, rules, wanted):
        self.assertEqual(checked(wanted), wanted)
        self.assertEqual(from_rules(rules), wanted)
        length = behind(rules) + 400
        self.assertEqual(figures(wanted, length), days_of(rules, length))

    def assert_too_long(self, rules):
        with self.assertRaises(TooLong):
            from_rules(rules)

    def test_one_rule_some_times(self):
        self.assert_from([(399, 1, 1)], just(399))
        self.assert_from([(399, 200, 1)], just(399))
        self.assert_too_long([(400, 1, 1)])
        self.assert_from([(0, 1, 400)], ((1,) * 400, (0,)))
        self.assert_too_long([(1, 1, 400)])
        self.assert_from([(1, 2, 200)], ((0, 1) * 200, (0,)))
        self.assert_too_long([(0, 2, 201)])
        self.assert_from([(199, 200, 2)], just(199, 399))
        self.assert_too_long([(200, 200, 2)])
        self.assert_too_long([(0, 200, 3)])
        self.assert_too_long([(400, 200, 400)])

    def test_one_rule_for_ever(self):
        self.assert_from([(0, 1, None)], always())
        self.assert_from([(400, 1, None)], ((0,) * 400, (1,)))
        self.assert_from([(0, 200, None)], every(200))
        self.assert_from([(199, 200, None)], at(200, 199))
        self.assert_from([(400, 200, None)], ((0,) * 201, at(200, 199)[1]))

    def test_a_head_at_the_bound(self):
        self.assert_from([(0, 1, 400), (400, 200, None)], ((1,) * 400, every(200)[1]))
        self.assert_from([(399, 1, 1), (1, 200, None)],
                         (tuple(int(day in (1, 201, 399)) for day in range(400)), at(200, 1)[1]))
        self.assert_from([(0, 1, 400), (400, 1, None)], always())
        self.assert_from([(400, 1, None), (0, 1, 400)], always())
        self.assert_from([(400, 1, None), (1, 1, 399)], ((0,), (1,)))

    def test_a_bar_at_the_bound(self):
        self.assert_from([(0, 8, None), (0, 25, None)], every(8, 25))
        self.assert_from([(0, 40, None), (0, 25, None), (0, 200, None)], every(40, 25))
        self.assertEqual(len(every(40, 25)[1]), 200)
        self.assert_from([(0, 200, None), (100, 200, None)], every(100))
        self.assert_from([(0, 198, None), (99, 198, None), (0, 2, None)], every(99, 2))

    def test_long_bars_that_are_not_needed(self):
        self.assert_from([(0, 1, None), (0, 199, None), (5, 200, None), (7, 197, None)], always())
        self.assert_from([(0, 2, None), (1, 2, None), (0, 199, None), (400, 200, None)], always())
        self.assert_from([(0, 2, None), (4, 198, None), (16, 200, None), (0, 194, None)], every(2))

    def test_what_there_is_by_then_is_too_long(self):
        self.assert_too_long([(0, 199, None), (0, 200, None)])
        self.assert_too_long([(0, 3, None), (0, 67, None)])
        self.assert_too_long([(0, 6, None), (1, 5, None), (0, 7, None)])
        self.assert_too_long([(0, 2, None), (0, 199, None)])

    def test_too_long_though_the_whole_would_not_be(self):
        every_day = (0, 1, None)
        for rules in ([(0, 199, None), (0, 200, None)], [(0, 3, None), (0, 67, None)], [(400, 1, 1)], [(1, 1, 400)],
                      [(0, 200, 400)], [(0, 2, None), (0, 199, None), (1, 2, None)]):
            self.assert_too_long(rules + [every_day])
            self.assert_too_long(rules + [every_day] * (12 - len(rules)))
        self.assert_from([every_day, (0, 199, None), (0, 200, None)], always())
        self.assert_too_long([every_day, (400, 1, 1)])
        self.assert_too_long([every_day, (1, 1, 400)])


class NoRules(unittest.TestCase):

    def assert_bad(self, rules, place):
        with self.assertRaises(BadRule) as caught:
            from_rules(rules)
        self.assertEqual(caught.exception.at, place)
        self.assertNotIsInstance(caught.exception.at, bool)
        self.assertIsInstance(caught.exception, PulseError)

    def assert_no_rule(self, rule):
        """As the first, within and as the last one; in a list of one, of some and of twelve."""
        good = (3, 5, None)
        for length in (1, 2, 3, 12):
            for place in sorted({0, length // 2, length - 1}):
                rules = [good] * length
                rules[place] = rule
                self.assert_bad(rules, place)

    def test_no_list(self):
        for value in (None, True, False, 0, 1, 10 ** 5000, 1.5, "", "a", "012", b"", (), ((0, 1, None),), (0, 1, None),
                      {}, {0: (0, 1, None)}, set(), {(0, 1, 1)}, frozenset(), range(0), iter([]), object(), list,
                      from_rules):
            with self.subTest(kind=type(value)):
                self.assert_bad(value, None)

    def test_thirteen_rules(self):
        for rules in ([(0, 1, None)] * 13, [(day, 1, 1) for day in range(13)], [(0, 1, None)] * 14,
                      [(0, 1, None)] * 1000, [None] * 13, [(0, 0, 0)] * 13, [(0, 1, None)] * 12 + [None],
                      [None] + [(0, 1, None)] * 12):
            with self.subTest(length=len(rules)):
                self.assert_bad(rules, None)

    def test_no_tuple(self):
        for rule in (None, True, False, 0, 7, 10 ** 5000, 1.5, "", "abc", "011", b"\0\1\1", [], [0, 1, None], [0, 1, 1],
                     {}, {0: 1, 1: 1, 2: 1}, {0, 1, 2}, range(1, 4), iter((0, 1, 1)), object(), tuple):
            with self.subTest(kind=type(rule)):
                self.assert_no_rule(rule)

    def test_a_tuple_of_another_length(self):
        for rule in ((), (0,), (0, 1), (3, 1), (0, 1, None, None), (0, 1, 1, 1), ((0, 1, 1),), (0, 1, 1) * 2):
            with self.subTest(rule=rule):
                self.assert_no_rule(rule)

    def test_beyond_the_bounds(self):
        for rule in ((-1, 1, None), (401, 1, None), (-1, 1, 1), (401, 1, 1), (0, 0, None), (0, 201, None), (0, 0, 1),
                     (0, 201, 1), (0, 1, 0), (0, 1, 401), (0, 200, 401), (-400, 200, 400), (0, -1, None), (0, 1, -1),
                     (10 ** 5000, 1, 1), (0, 10 ** 5000, 1), (0, 1, 10 ** 5000), (-10 ** 5000, 1, 1)):
            with self.subTest(place=[entry is not None and not 0 <= entry <= 400 for entry in rule]):
                self.assert_no_rule(rule)

    def test_wrong_kinds_in_each_place(self):
        for entry in (True, False, "1", "", "a", 1.0, 2.5, 1j, b"1", (), (1,), [], [1], {}, {1}, object(), int):
            for place in range(3):
                for times in (1, None):
                    rule = [1, 1, times]
                    rule[place] = entry
                    with self.subTest(kind=type(entry), place=place):
                        self.assert_no_rule(tuple(rule))

    def test_none_in_each_place(self):
        self.assert_no_rule((None, 1, 1))
        self.assert_no_rule((0, None, 1))
        self.assert_no_rule((None, 1, None))
        self.assert_no_rule((0, None, None))
        self.assertEqual(from_rules([(0, 1, None)]), always())

    def test_the_first_wrong_one_is_told(self):
        wrong = (None, (-1, 1, 1), (0, 0, None), (0, 1, True), [0, 1, 1], (0, 1), "011")
        for first, second in product(wrong, repeat=2):
            self.assert_bad([first, second], 0)
            self.assert_bad([(0, 1, 1), first, second], 1)
            self.assert_bad([(0, 1, 1), (0, 2, None), first, (0, 1, 1), second], 2)
            self.assert_bad([(0, 1, 1)] * 10 + [first, second], 10)

    def test_a_wrong_one_behind_what_is_too_long(self):
        for long in ([(400, 1, 1)], [(0, 199, None), (0, 200, None)], [(0, 200, 400)]):
            with self.assertRaises(TooLong):
                from_rules(long)
            self.assert_bad(long + [(0, 0, 1)], len(long))
            self.assert_bad([(0, 0, 1)] + long, 0)
            self.assert_bad(long * 13, None)

    def test_a_list_within_itself(self):
        rules = []
        rules.append(rules)
        self.assert_bad(rules, 0)

    def test_the_list_stays_as_it_was(self):
        for rules in ([], [(0, 3, None), (4, 1, 1)], [(400, 1, 1)], [(0, 199, None), (0, 200, None)],
                      [(0, 1, 1), [0, 1, 1]], [(0, 1, 1), None, (0, 0, 0)], [(0, 1, None)] * 13, [{1: [2]}]):
            before = copy.deepcopy(rules)
            try:
                from_rules(rules)
            except PulseError:
                pass
            self.assertEqual(rules, before)

    def test_nothing_is_kept(self):
        rules = [(0, 3, None)]
        first = from_rules(rules)
        self.assert_bad([(0, 2, None), None], 1)
        self.assertEqual(from_rules(rules), first)
        rules.append((1, 3, None))
        self.assertEqual(from_rules(rules), ((), (1, 1, 0)))
        rules.clear()
        self.assertEqual(from_rules(rules), never())
        self.assertEqual(from_rules([(0, 3, None)]), first)

    def test_name_of_the_argument(self):
        self.assertEqual(from_rules(rules=[(0, 2, None)]), ((), (1, 0)))


class RulesOf(unittest.TestCase):

    def test_in_none(self):
        self.assertEqual(rules_of(never()), [])

    def test_in_the_head(self):
        self.assertEqual(rules_of(just(0)), [(0, 1, 1)])
        self.assertEqual(rules_of(just(2, 5, 399)), [(2, 1, 1), (5, 1, 1), (399, 1, 1)])

    def test_in_the_bar(self):
        self.assertEqual(rules_of(always()), [(0, 1, None)])
        self.assertEqual(rules_of(((), (0, 1, 1))), [(1, 3, None), (2, 3, None)])
        self.assertEqual(rules_of(((0, 0), (1, 0, 1))), [(2, 3, None), (4, 3, None)])
        self.assertEqual(rules_of(at(200, 199)), [(199, 200, None)])

    def test_in_both(self):
        self.assertEqual(rules_of(((1, 0, 1), (0, 1, 0))), [(0, 1, 1), (2, 1, 1), (4, 3, None)])
        self.assertEqual(rules_of(((1, 1), (1, 0, 0, 1, 0))), [(0, 1, 1), (1, 1, 1), (2, 5, None), (5, 5, None)])
        self.assertEqual(rules_of(((1,), (0,))), [(0, 1, 1)])
        self.assertEqual(rules_of(((1, 0), (1,))), [(0, 1, 1), (2, 1, None)])

    def assert_told(self, pulse):
        checked(pulse)
        rules = rules_of(pulse)
        head, bar = pulse
        in_head = [(day, 1, 1) for day in days_below(pulse, len(head))]
        in_bar = [(day, len(bar), None) for day in days_below(pulse, len(head) + len(bar)) if day >= len(head)]
        self.assertIsInstance(rules, list)
        self.assertEqual(rules, in_head + in_bar)
        self.assertEqual([type(rule) for rule in rules], [tuple] * len(rules))
        length = len(head) + 3 * len(bar)
        self.assertEqual(days_of(rules, length), figures(pulse, length))
        if len(rules) <= 12 and all(rule[0] <= 400 for rule in rules):
            self.assertEqual(from_rules(rules), pulse)

    def test_small_pulses(self):
        pulses = sorted({made(form) for form in forms(4, 4)})
        for pulse in pulses:
            self.assert_told(pulse)
            self.assertEqual(from_rules(rules_of(pulse)), pulse)

    def test_long_pulses(self):
        for form in some_forms(89, 12, 400, 200):
            self.assert_told(made(form))
        self.assert_told(((0,) * 200 + (1,) * 200, turned(at(200, 199))[1]))

    def test_pulses_with_few_days(self):
        draw, again = Random(97), 0
        for _ in range(200):
            head = tuple(int(draw.randrange(60) == 0) for _ in range(draw.randint(0, 250)))
            bar = tuple(int(draw.randrange(40) == 0) for _ in range(draw.randint(1, 150)))
            pulse = made((head, bar))
            self.assert_told(pulse)
            again += len(rules_of(pulse)) <= 12
        self.assertGreater(again, 100)

    def test_at_the_bounds(self):
        self.assert_told(((1,) * 12 + (0,) * 387 + (1,), (0,)))
        self.assert_told(((0,) * 400, (1,)))
        self.assert_told(((0,) * 399 + (1,), every(200)[1]))
        self.assertEqual(rules_of(((0,) * 399 + (1,), every(200)[1])), [(399, 1, 1), (400, 200, None)])
        self.assert_told(((0,) * 399 + (1,), (0,) * 100 + (1,) + (0,) * 99))
        self.assert_told(((1,) * 400, (0,)))
        self.assertEqual(len(rules_of(((1,) * 400, (1,) * 199 + (0,)))), 599)

    def test_a_first_day_behind_the_latest_start(self):
        # No rule starts so late, though these have just the days of the pulse.
        rules = rules_of(((0,) * 400, (0, 1, 1)))
        self.assertEqual(rules, [(401, 3, None), (402, 3, None)])
        with self.assertRaises(BadRule) as caught:
            from_rules(rules)
        self.assertEqual(caught.exception.at, 0)

    def test_a_new_list_each_time(self):
        pulse = checked(((1, 0, 1), (0, 1, 0)))
        first = rules_of(pulse)
        kept = list(first)
        first.clear()
        self.assertEqual(rules_of(pulse), kept)
        rules_of(pulse).append(None)
        self.assertEqual(rules_of(pulse), kept)
        self.assertIsNot(rules_of(pulse), rules_of(pulse))
        rules_of(never()).append((0, 1, 1))
        self.assertEqual(rules_of(never()), [])

    def test_name_of_the_argument(self):
        self.assertEqual(rules_of(pulse=always()), [(0, 1, None)])


if __name__ == "__main__":
    unittest.main()
