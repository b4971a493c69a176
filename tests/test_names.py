"""Promises 2 and 5: what a whole number is, and what a name is."""

import string
import unittest

from carry.names import is_name, is_whole

NO_TEXTS = (None, True, False, 0, 1, -5, 10 ** 6000, [], ["a"], (), ("a",), [["a"]], {}, {"a": 1}, b"abc", 1.0)


class Whole(unittest.TestCase):
    def test_whole_numbers(self):
        for thing in (0, 1, -1, 999999999, -999999999, 10 ** 6000, -(10 ** 6000)):
            self.assertIs(is_whole(thing), True)

    def test_truths_are_no_whole_numbers(self):
        self.assertIs(is_whole(True), False)
        self.assertIs(is_whole(False), False)

    def test_other_things_are_none(self):
        for thing in (None, "", "1", "a", [], [1], (), (1,), {}, {1: 1}, 1.0, 0.0, b"1"):
            with self.subTest(thing=thing):
                self.assertIs(is_whole(thing), False)


class Name(unittest.TestCase):
    def test_each_small_letter_is_a_name(self):
        for letter in string.ascii_lowercase:
            with self.subTest(letter):
                self.assertIs(is_name(letter), True)

    def test_each_length_from_one_to_eight(self):
        for long in range(1, 9):
            with self.subTest(long=long):
                self.assertIs(is_name("abcdefgh"[:long]), True)
                self.assertIs(is_name("z" * long), True)

    def test_too_short_and_too_long(self):
        for text in ("", "abcdefghi", "a" * 9, "a" * 1000):
            with self.subTest(text=text):
                self.assertIs(is_name(text), False)

    def test_each_other_sign_alone_ahead_within_and_at_the_end(self):
        others = [chr(k) for k in range(128) if chr(k) not in string.ascii_lowercase]
        for sign in others:
            for text in (sign, sign + "ab", "a" + sign + "b", "ab" + sign):
                with self.subTest(text=text):
                    self.assertIs(is_name(text), False)

    def test_small_letters_beyond_z_are_none(self):
        for text in ("\u00e9", "a\u00df", "\u0131", "\u03b1", "\uff41", "\u00aa", "\u00b2"):
            with self.subTest(text=text):
                self.assertIs(is_name(text), False)

    def test_things_that_are_no_text(self):
        for thing in NO_TEXTS:
            self.assertIs(is_name(thing), False)

    def test_what_is_asked_of_is_not_changed(self):
        things = ["a", ["b"], ("c", [])]
        is_name(things)
        is_whole(things)
        self.assertEqual(things, ["a", ["b"], ("c", [])])


if __name__ == "__main__":
    unittest.main()
