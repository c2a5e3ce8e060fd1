"""Promises [1] and [14]: pulses written as texts, and read again."""

import unittest
from itertools import product

from pulsebook.errors import BadForm, BadText, NotTight, PulseError
from pulsebook.pulses import always, checked, made, never
from pulsebook.texts import read, shown
from tests.helper import at, every, forms, just, some_forms

SMALL = sorted({made(form) for form in forms(4, 4)})


def text_of(form):
    return "|".join("".join("01"[entry] for entry in part) for part in form)


class Shown(unittest.TestCase):

    def test_without_a_head(self):
        self.assertEqual(shown(never()), "|0")
        self.assertEqual(shown(always()), "|1")
        self.assertEqual(shown(((), (0, 1, 1))), "|011")

    def test_with_a_head(self):
        self.assertEqual(shown(((1, 0, 1), (0, 1, 0))), "101|010")
        self.assertEqual(shown(((1,), (0,))), "1|0")
        self.assertEqual(shown(((0, 0), (1,))), "00|1")

    def test_small_pulses(self):
        for pulse in SMALL:
            self.assertEqual(shown(pulse), text_of(pulse))
            self.assertIs(type(shown(pulse)), str)

    def test_no_two_alike(self):
        self.assertEqual(len({shown(pulse) for pulse in SMALL}), len(SMALL))

    def test_at_the_bounds(self):
        self.assertEqual(shown(just(399)), "0" * 399 + "1|0")
        self.assertEqual(shown(at(200, 199)), "|" + "0" * 199 + "1")
        self.assertEqual(shown(((1,) * 400, every(200)[1])), "1" * 400 + "|1" + "0" * 199)

    def test_name_of_the_argument(self):
        self.assertEqual(shown(pulse=never()), "|0")


class Read(unittest.TestCase):

    def assert_again(self, pulse):
        checked(pulse)
        self.assertEqual(read(shown(pulse)), pulse)
        self.assertEqual(checked(read(shown(pulse))), pulse)

    def test_what_is_shown(self):
        for pulse in SMALL + [made(form) for form in some_forms(101, 30, 400, 200)]:
            self.assert_again(pulse)

    def test_at_the_bounds(self):
        for pulse in (never(), always(), just(0), just(399), at(200, 0), at(200, 199), ((1,) * 400, every(200)[1])):
            self.assert_again(pulse)

    def test_written_out(self):
        self.assertEqual(read("|0"), ((), (0,)))
        self.assertEqual(read("|1"), ((), (1,)))
        self.assertEqual(read("101|010"), ((1, 0, 1), (0, 1, 0)))
        self.assertEqual(read("00|1"), ((0, 0), (1,)))

    def test_each_short_text(self):
        texts = {text_of(pulse): pulse for pulse in {made(form) for form in forms(5, 6)}}
        seen = 0
        for length in range(7):
            for signs in product("01| ", repeat=length):
                text = "".join(signs)
                if text in texts:
                    seen += 1
                    self.assertEqual(read(text), texts[text])
                else:
                    with self.subTest(text=text), self.assertRaises(BadText):
                        read(text)
        self.assertGreater(seen, 100)

    def test_name_of_the_argument(self):
        self.assertEqual(read(text="|0"), never())


class NoPulse(unittest.TestCase):

    def assert_bad(self, text):
        with self.assertRaises(BadText) as caught:
            read(text)
        self.assertIsInstance(caught.exception, PulseError)
        self.assertNotIsInstance(caught.exception, (BadForm, NotTight))

    def test_no_text(self):
        for value in (None, True, False, 0, 1, 10 ** 5000, 1.5, b"|0", b"", bytearray(b"|0"), [], ["|0"], ["|", "0"],
                      (), ("", "0"), ("|0",), ((), (0,)), ((), (1,)), {}, {"|0": 1}, {"|0"}, iter("|0"), object(), str,
                      read):
            with self.subTest(kind=type(value)):
                self.assert_bad(value)

    def test_no_signs_or_no_bar(self):
        for text in ("", "|", "0|", "1|", "01|", "1" * 400 + "|"):
            with self.subTest(text=text):
                self.assert_bad(text)

    def test_not_just_one_divider(self):
        for text in ("0", "1", "01", "10" * 50, "||", "|0|", "||0", "0||1", "0|1|", "|0|1", "0|1|0", "1|0|0", "|1|1",
                     "1||0", "|" * 100, "|||0"):
            with self.subTest(text=text):
                self.assert_bad(text)

    def test_another_sign(self):
        for sign in ("2", "9", "a", "O", "l", "I", "-", "+", ".", ",", "_", "/", "\\", "\0", "!", "(", "'", "\x7f",
                     "\u00a6", "\uff5c", "\u2223", "\u00e9", "\u0301", "\u200b", "\ufeff", "\ud800", "\U0001f600"):
            for text in (sign, sign + "|0", "|" + sign, "0" + sign + "1|0", "|0" + sign + "1", "01|01" + sign,
                         sign + "01|011", "01" + sign + "10", "01" + sign + "|10", "01|" + sign + "10"):
                with self.subTest(text=text.encode("unicode_escape")):
                    self.assert_bad(text)

    def test_figures_of_another_script(self):
        # Arabic, Persian, Devanagari, wide, mathematical and raised or lowered noughts and ones.
        for nought, one in (("\u0660", "\u0661"), ("\u06f0", "\u06f1"), ("\u0966", "\u0967"), ("\uff10", "\uff11"),
                            ("\U0001d7ce", "\U0001d7cf"), ("\u2070", "\u00b9"), ("\u2080", "\u2081")):
            for text in ("|" + nought, "|" + one, one + "|" + nought, "1|" + nought, one + "|0", "|0" + one,
                         "|" + nought + "1", nought + "1|0"):
                with self.subTest(text=text.encode("unicode_escape")):
                    self.assert_bad(text)

    def test_a_blank_or_a_line_feed(self):
        for text in ("|0", "|1", "101|010", "1|0", "0" * 399 + "1|1" + "0" * 199):
            self.assertEqual(shown(read(text)), text)
            for sign in (" ", "\n", "\r", "\r\n", "\t", "\v", "\f", "\x1c", "\x85", "\u00a0", "\u2028", "\u3000"):
                for wrong in (sign + text, text + sign, text.replace("|", "|" + sign), text.replace("|", sign + "|"),
                              sign + text + sign, text + sign + text):
                    with self.subTest(text=wrong[:20].encode("unicode_escape")):
                        self.assert_bad(wrong)

    def test_a_form_that_is_no_pulse(self):
        for text in ("0|0", "1|1", "|00", "|11", "|0101", "|011011", "0|10", "1|01", "00|0", "010|10", "1|00", "0|11",
                     "0" * 400 + "|0", "|" + "0" * 200, "|" + "01" * 100):
            with self.subTest(text=text):
                self.assert_bad(text)
        for form in forms(3, 4):
            if made(form) != form:
                self.assert_bad(text_of(form))

    def test_too_many_figures(self):
        for text in ("0" * 400 + "1|0", "1" * 401 + "|0", "0" * 401 + "|1", "0" * 401 + "|0", "1" * 5000 + "|0",
                     "|" + "0" * 200 + "1", "|1" + "0" * 200, "|" + "0" * 201, "|" + "0" * 4999 + "1",
                     "0" * 400 + "1|" + "0" * 200 + "1", "01" * 50000 + "|0"):
            with self.subTest(length=len(text)):
                self.assert_bad(text)

    def test_nothing_is_kept(self):
        first = read("101|010")
        self.assert_bad("101|101 ")
        self.assertEqual(read("101|010"), first)
        self.assertEqual(shown(first), "101|010")


if __name__ == "__main__":
    unittest.main()
