"""Promises [1] and [4] over the whole program, and its interface."""

import ast
import copy
import inspect
import unittest
from importlib import import_module
from pathlib import Path

from pulsebook import errors
from pulsebook.asks import count, day_at, ends, greatest, is_empty, last_day, longest_gap, next_day
from pulsebook.compares import differ, within
from pulsebook.heaps import good_take, lost
from pulsebook.moves import earlier, later, shrunk, stretched
from pulsebook.pulses import always, checked, has, made, never
from pulsebook.rules import from_rules, rules_of
from pulsebook.sets import apart, both, either, less, other
from pulsebook.sums import added, all_sums
from pulsebook.texts import read, shown
from pulsebook.walkers import walk_of, walked
from tests.helper import at, every, forms, just, some_forms

INTERFACE = {
    "pulses": {"checked": ["pulse"], "made": ["form"], "has": ["pulse", "day"], "never": [], "always": []},
    "sets": {"both": ["one", "other"], "either": ["one", "other"], "less": ["one", "other"], "apart": ["one", "other"],
             "other": ["pulse"]},
    "moves": {"later": ["pulse", "n"], "earlier": ["pulse", "n"], "stretched": ["pulse", "n"],
              "shrunk": ["pulse", "n"]},
    "sums": {"added": ["one", "other"], "all_sums": ["numbers"]},
    "asks": {"next_day": ["pulse", "day"], "last_day": ["pulse", "day"], "count": ["pulse", "day"],
             "day_at": ["pulse", "n"], "greatest": ["pulse"], "ends": ["pulse"], "is_empty": ["pulse"],
             "longest_gap": ["pulse"]},
    "compares": {"differ": ["one", "other"], "within": ["one", "other"]},
    "rules": {"from_rules": ["rules"], "rules_of": ["pulse"]},
    "walkers": {"walked": ["steps", "marks", "start"], "walk_of": ["pulse"]},
    "heaps": {"lost": ["numbers"], "good_take": ["numbers", "size"]},
    "texts": {"shown": ["pulse"], "read": ["text"]},
}

PULSES = [never(), always(), just(0), just(3, 9), at(5, 2), every(2, 3), ((1, 0, 1), (0, 1, 0)), ((0, 0), (1, 0, 1)),
          ((1,) * 10 + (0,), at(12, 11)[1])]

# A call of each function for a pulse, for two, and for what else is handed in.
OF_ONE = (checked, made, other, ends, is_empty, greatest, longest_gap, rules_of, walk_of, shown)
OF_ONE_AND_A_NUMBER = (has, later, earlier, stretched, shrunk, next_day, last_day, count, day_at)
OF_TWO = (both, either, less, apart, added, differ, within)
OF_OTHER_THINGS = ((never, ()), (always, ()), (all_sums, ([4, 7],)), (from_rules, ([(0, 3, None), (1, 2, 5)],)),
                   (walked, ([1, 2, 1], [1, 0, 1], 0)), (lost, ([2, 5, 3],)), (good_take, ([2, 5, 3], 10 ** 39)),
                   (good_take, ([1], 4)), (read, ("101|010",)))
REFUSED = ((checked, (((0,), (0,)),)), (checked, (None,)), (made, (((), ()),)), (both, (every(14), every(17))),
           (later, (just(399), 1)), (added, (just(399), just(1))), (all_sums, ([0],)), (from_rules, ([None],)),
           (from_rules, ([(400, 1, 1)],)), (walked, ([1], [0], 0)), (walked, ([0], [0], 1)), (lost, ([9],)),
           (good_take, ([], 3)), (read, ("0|0",)), (read, (None,)))

CALLS = ([(function, (pulse,)) for function in OF_ONE for pulse in PULSES]
         + [(function, (pulse, n)) for function in OF_ONE_AND_A_NUMBER for pulse in PULSES for n in (1, 3)]
         + [(function, (one, two)) for function in OF_TWO for one in PULSES for two in PULSES]
         + list(OF_OTHER_THINGS))

TELL_A_PULSE = (checked, made, other, later, earlier, stretched, shrunk, both, either, less, apart, added, never,
                always, all_sums, from_rules, walked, lost, read)


class Interface(unittest.TestCase):

    def test_names_and_arguments(self):
        for module, functions in INTERFACE.items():
            held = import_module("pulsebook." + module)
            for name, arguments in functions.items():
                with self.subTest(module=module, name=name):
                    signature = inspect.signature(getattr(held, name))
                    self.assertEqual(list(signature.parameters), arguments)
                    for parameter in signature.parameters.values():
                        self.assertIs(parameter.default, parameter.empty)

    def test_each_function_is_called_here(self):
        named = {name for functions in INTERFACE.values() for name in functions}
        self.assertEqual({function.__name__ for function, handed in CALLS}, named)

    def test_nothing_is_drawn_from_outside(self):
        for path in sorted(Path(errors.__file__).parent.glob("*.py")):
            for node in ast.walk(ast.parse(path.read_text())):
                with self.subTest(path=path.name):
                    self.assertNotIsInstance(node, ast.Import)
                    if isinstance(node, ast.ImportFrom):
                        self.assertEqual((node.level, node.module.split(".")[0]), (0, "pulsebook"))


def told(function, handed):
    return function(*copy.deepcopy(handed))


class Told(unittest.TestCase):

    def assert_refused(self):
        for function, handed in REFUSED:
            with self.subTest(function=function.__name__), self.assertRaises(errors.PulseError):
                told(function, handed)

    def test_what_was_told_before_is_told_again(self):
        first = [told(function, handed) for function, handed in CALLS]
        self.assert_refused()
        again = [told(function, handed) for function, handed in reversed(CALLS)]
        self.assertEqual(again[::-1], first)

    def test_lists_that_are_told_are_new_ones(self):
        for pulse in PULSES:
            rules, walk = rules_of(pulse), walk_of(pulse)
            kept = copy.deepcopy((rules, walk))
            for each in (rules, walk[0], walk[1]):
                each.clear()
            self.assertEqual((rules_of(pulse), walk_of(pulse)), kept)
            self.assertEqual((from_rules(kept[0]), walked(kept[1][0], kept[1][1], 0)), (pulse, pulse))

    def test_what_is_handed_in_is_not_changed(self):
        for function, handed in CALLS + list(REFUSED):
            before = copy.deepcopy(handed)
            try:
                function(*handed)
            except errors.PulseError:
                pass
            self.assertEqual(handed, before)

    def test_a_pulse_is_told(self):
        for function, handed in CALLS:
            if function in TELL_A_PULSE:
                answer = told(function, handed)
                self.assertEqual(checked(answer), answer)

    def test_true_and_false_are_told_as_such(self):
        for function, handed in CALLS:
            if function in (has, ends, is_empty, within):
                self.assertIs(type(told(function, handed)), bool)

    def test_figures_and_numbers_are_no_true_and_false(self):
        for function, handed in CALLS:
            answer = told(function, handed)
            if function in TELL_A_PULSE:
                self.assertEqual({type(entry) for part in answer for entry in part}, {int})
            elif function in (next_day, last_day, count, day_at, greatest, longest_gap, differ, good_take):
                self.assertIn(type(answer), (int, type(None)))


class OneWayAndAnother(unittest.TestCase):

    def assert_each_way(self, pulse):
        steps, marks = walk_of(pulse)
        self.assertEqual(from_rules(rules_of(pulse)), pulse)
        self.assertEqual(walked(steps, marks, 0), pulse)
        self.assertEqual(read(shown(pulse)), pulse)
        self.assertEqual(made(pulse), pulse)
        self.assertEqual(other(other(pulse)), pulse)
        self.assertEqual(earlier(later(pulse, 7), 7), pulse)
        self.assertEqual(shrunk(stretched(pulse, 3), 3), pulse)
        self.assertEqual(added(pulse, just(0)), pulse)
        self.assertEqual(either(both(pulse, every(2)), less(pulse, every(2))), pulse)
        self.assertEqual(apart(apart(pulse, every(3)), every(3)), pulse)

    def test_each_small_pulse(self):
        for pulse in sorted({made(form) for form in forms(3, 4)}):
            self.assert_each_way(pulse)

    def test_some_pulses(self):
        for form in some_forms(131, 60, 12, 8):
            pulse = made(form)
            if len(rules_of(pulse)) <= 12:
                self.assert_each_way(pulse)

    def test_the_day_by_which_they_differ(self):
        for one in PULSES:
            for two in PULSES:
                self.assertEqual(differ(one, two), next_day(apart(one, two), 0))
                self.assertIs(within(one, two), is_empty(less(one, two)))

    def test_rules_of_sums_and_of_heaps(self):
        self.assertEqual(all_sums([3]), from_rules([(0, 3, None)]))
        self.assertEqual(all_sums([3, 5]), from_rules([(0, 3, None), (5, 3, None), (10, 3, None)]))
        self.assertEqual(lost([1, 2]), from_rules([(0, 3, None)]))
        self.assertEqual(lost([3]), from_rules([(0, 6, None), (1, 6, None), (2, 6, None)]))


if __name__ == "__main__":
    unittest.main()
