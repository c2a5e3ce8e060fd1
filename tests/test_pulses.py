"""Promises [1], [2] and [3]: forms, the days in them, and the one pulse of each."""

import copy
import unittest

from pulsebook.errors import BadForm, NotTight
from pulsebook.pulses import always, checked, has, made, never
from tests.helper import every, figure, figures, forms, some_forms

# Days enough to tell any two forms with a head of at most 5 and a bar of at most 5 from one another.
ENOUGH = 5 + 60

# No noughts and ones, though some are equal to these.
STRANGE = (True, False, 2, -1, "1", "0", "", None, 0.0, 1.0, 0j, (), (1,), [0], {}, 10 ** 5000, -10 ** 5000, object())


def with_entry(length, place, entry):
    row = [0] * length
    row[place] = entry
    return tuple(row)


class Refused(unittest.TestCase):

    def assert_no_form(self, value):
        with self.assertRaises(BadForm):
            made(value)
        with self.assertRaises(BadForm):
            checked(value)

    def test_no_tuple(self):
        for value in (None, True, False, 0, 1, 10 ** 5000, 1.5, "", "|1", "01", b"01", [], {}, set(), object(), made):
            with self.subTest(kind=type(value)):
                self.assert_no_form(value)
        for value in ([(), (1,)], {0: (), 1: (1,)}, {(): 0, (1,): 1}, iter(((), (1,)))):
            with self.subTest(kind=type(value)):
                self.assert_no_form(value)

    def test_a_tuple_of_another_length(self):
        for value in ((), ((),), ((1,),), ((), (1,), ()), ((), (1,), (1,)), ((), (1,), None), (0, 1, 0)):
            with self.subTest(value=value):
                self.assert_no_form(value)

    def test_lists_in_the_place_of_tuples(self):
        for value in ([[], [1]], ([], (1,)), ((), [1]), ([0], (1,)), ((0,), [1]), ([0], [1])):
            with self.subTest(value=value):
                self.assert_no_form(value)

    def test_other_kinds_in_the_place_of_tuples(self):
        for part in (None, True, 0, 1, "", "1", b"1", {}, {1: 1}, set(), object()):
            with self.subTest(kind=type(part)):
                self.assert_no_form((part, (1,)))
                self.assert_no_form(((), part))
                self.assert_no_form((part, part))

    def test_a_head_of_401(self):
        for head in ((0,) * 401, (1,) * 401, (0,) * 400 + (1,), (0,) * 5000):
            for bar in ((0,), (1,)):
                with self.subTest(last=head[-1], length=len(head), bar=bar):
                    self.assert_no_form((head, bar))

    def test_a_bar_of_none(self):
        for head in ((), (0,), (1,), (0, 1), (0,) * 400, (0,) * 401):
            with self.subTest(length=len(head)):
                self.assert_no_form((head, ()))

    def test_a_bar_of_201(self):
        for bar in ((0,) * 201, (1,) * 201, (0,) * 200 + (1,), (0, 1) * 101, (0,) * 5000):
            with self.subTest(last=bar[-1], length=len(bar)):
                self.assert_no_form(((), bar))
                self.assert_no_form(((0, 1), bar))

    def test_strange_entries_in_the_head(self):
        for number, entry in enumerate(STRANGE):
            for length in (1, 5, 400):
                for place in {0, length // 2, length - 1}:
                    with self.subTest(number=number, length=length, place=place):
                        self.assert_no_form((with_entry(length, place, entry), (1,)))
                        self.assert_no_form((with_entry(length, place, entry), (0, 1)))

    def test_strange_entries_in_the_bar(self):
        for number, entry in enumerate(STRANGE):
            for length in (1, 5, 200):
                for place in {0, length // 2, length - 1}:
                    with self.subTest(number=number, length=length, place=place):
                        self.assert_no_form(((), with_entry(length, place, entry)))
                        self.assert_no_form(((1, 1), with_entry(length, place, entry)))

    def test_no_form_is_told_ahead_of_not_tight(self):
        for value in (((), (0, 0, 2)), ((), (True, True)), ((0, 2, 0), (0,)), ((0,) * 401, (0, 0)), ((0, False), (0,))):
            with self.subTest(length=len(value[0])):
                self.assert_no_form(value)

    def test_what_is_handed_in_is_not_changed(self):
        for value in ([[0, 0], [0, 0]], ([0], [0, 0]), ([1, 1], (1,)), [(0,), (0,)], {0: [0], 1: [0]}):
            before = copy.deepcopy(value)
            self.assert_no_form(value)
            self.assertEqual(value, before)


class NotTightForms(unittest.TestCase):

    def assert_not_tight(self, form, pulse):
        with self.assertRaises(NotTight):
            checked(form)
        self.assertEqual(made(form), pulse)

    def test_because_of_the_bar(self):
        self.assert_not_tight(((), (0, 0)), ((), (0,)))
        self.assert_not_tight(((), (1,) * 200), ((), (1,)))
        self.assert_not_tight(((1,), (1, 0, 0) * 2), ((1,), (1, 0, 0)))
        self.assert_not_tight(((1, 0), (0, 1, 1) * 5), ((1, 0), (0, 1, 1)))
        self.assert_not_tight(((1,), every(100)[1] * 2), ((1,), every(100)[1]))

    def test_because_of_the_head(self):
        self.assert_not_tight(((0,), (0,)), ((), (0,)))
        self.assert_not_tight(((1,) * 400, (1,)), ((), (1,)))
        self.assert_not_tight(((0, 1), (1,)), ((0,), (1,)))
        self.assert_not_tight(((1, 1, 0), (1, 1, 0)), ((), (1, 1, 0)))
        self.assert_not_tight(((0,), (1, 1, 0)), ((), (0, 1, 1)))
        self.assert_not_tight(((0, 0, 1), (0, 0, 1, 1)), ((0, 0), (1, 0, 0, 1)))

    def test_because_of_both(self):
        self.assert_not_tight(((0,), (0, 0)), ((), (0,)))
        self.assert_not_tight(((1,) * 400, (1,) * 200), ((), (1,)))
        self.assert_not_tight(((1, 0), (1, 0, 1, 0)), ((), (1, 0)))
        self.assert_not_tight(((0,), (1, 0, 0) * 2), ((), (0, 1, 0)))
        self.assert_not_tight(((0,), (1, 0) * 100), ((), (0, 1)))
        self.assert_not_tight(((1, 1, 0), (1, 0) * 3), ((1,), (1, 0)))


class ThePulseOfAForm(unittest.TestCase):

    def test_ordinary_pulses(self):
        for pulse in (((), (0,)), ((), (1,)), ((1,), (0,)), ((0,), (1,)), ((), (0, 1)), ((), (1, 0)),
                      ((0, 1, 1), (0,)), ((1, 1), (1, 0)), ((0, 0), (1, 0, 0, 1)), ((1, 1, 0), (0, 1, 1))):
            with self.subTest(pulse=pulse):
                self.assertEqual(checked(pulse), pulse)
                self.assertEqual(made(pulse), pulse)

    def test_pulses_at_the_bounds(self):
        for head in ((), (1,), (0,) * 398 + (1,), (0,) * 399 + (1,), (1,) * 400):
            for bar in ((0,), every(199)[1], every(200)[1]):
                with self.subTest(head=len(head), bar=len(bar)):
                    self.assertEqual(checked((head, bar)), (head, bar))
                    self.assertEqual(made((head, bar)), (head, bar))

    def test_each_small_form_and_all_alike(self):
        alike = {}
        for form in forms(5, 5):
            alike.setdefault(tuple(figures(form, ENOUGH)), []).append(form)
        for group in alike.values():
            pulse = min(group, key=lambda form: (len(form[1]), len(form[0])))
            for form in group:
                self.assertEqual(made(form), pulse)
                if form == pulse:
                    self.assertEqual(checked(form), form)
                else:
                    with self.assertRaises(NotTight):
                        checked(form)

    def test_longer_and_turned_writings_of_one_pulse(self):
        pulse = ((1, 1, 0), (0, 1, 1, 0, 1))
        for more in range(0, 398):
            head = tuple(figures(pulse, 3 + more))
            bar = tuple(figure(pulse, 3 + more + place) for place in range(5))
            self.assertEqual(made((head, bar)), pulse)
            self.assertEqual(made((head, bar * 40)), pulse)

    def test_each_divisor_of_the_longest_bar(self):
        for length in (1, 2, 4, 5, 8, 10, 20, 25, 40, 50, 100, 200):
            bar = every(length)[1]
            with self.subTest(length=length):
                self.assertEqual(made(((), bar * (200 // length))), ((), bar))

    def test_a_bar_that_comes_again_but_for_its_last_entry(self):
        bar = (1, 0, 0, 0, 0) * 39 + (1, 0, 0, 0, 1)
        self.assertEqual(checked(((), bar)), ((), bar))
        self.assertEqual(made(((), bar)), ((), bar))
        self.assertEqual(made(((), (1, 0, 1))), ((), (1, 0, 1)))

    def test_many_forms_keep_their_days_and_are_tight(self):
        for form in some_forms(3, 200, 400, 200):
            pulse = made(form)
            self.assertEqual(checked(pulse), pulse)
            self.assertEqual(figures(pulse, 1000), figures(form, 1000))

    def test_the_same_answer_each_time(self):
        form = ((1, 0, 1), (0, 1, 0, 1))
        first = made(form)
        with self.assertRaises(BadForm):
            made(((), (2,)))
        with self.assertRaises(NotTight):
            checked(form)
        self.assertEqual(made(form), first)
        self.assertEqual(form, ((1, 0, 1), (0, 1, 0, 1)))

    def test_names_of_the_arguments(self):
        self.assertEqual(made(form=((0,), (0,))), ((), (0,)))
        self.assertEqual(checked(pulse=((), (0,))), ((), (0,)))
        self.assertIs(has(pulse=((), (0, 1)), day=1), True)


class Days(unittest.TestCase):

    def test_days_of_small_pulses(self):
        for form in forms(3, 4):
            pulse = made(form)
            for day in range(20):
                self.assertIs(has(pulse, day), figure(form, day) == 1)

    def test_days_at_the_bounds(self):
        pulse = checked(((0,) * 399 + (1,), every(200)[1]))
        self.assertEqual([day for day in range(1201) if has(pulse, day)], [399, 400, 600, 800, 1000, 1200])

    def test_days_of_many_figures(self):
        pulse = checked(((1, 1, 0), (0, 1, 1, 0, 1)))
        for many in (10 ** 20, 10 ** 400, 10 ** 5000):
            for place, entry in enumerate((0, 1, 1, 0, 1)):
                self.assertIs(has(pulse, 3 + 5 * many + place), entry == 1)
            self.assertIs(has(((), every(200)[1]), 200 * many), True)
            self.assertIs(has(((), every(200)[1]), 200 * many - 1), False)

    def test_never_and_always(self):
        self.assertEqual(never(), ((), (0,)))
        self.assertEqual(always(), ((), (1,)))
        self.assertEqual(checked(never()), never())
        self.assertEqual(checked(always()), always())
        for day in (0, 1, 399, 400, 10 ** 1000):
            self.assertIs(has(never(), day), False)
            self.assertIs(has(always(), day), True)


if __name__ == "__main__":
    unittest.main()
