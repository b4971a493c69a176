"""Promise 3: each refusal has a class of its own, under the base and under no other one's."""

import unittest

from carry import errors

MADE_OF_TEXT = (
    "NoName", "NoSize", "NoOut", "NoHand", "NoWay", "NoMoment",
    "NoFlight", "NoBelt", "NoRoom", "NoBag", "NoDeed",
)
ALL = MADE_OF_TEXT + ("NoLine",)


class Classes(unittest.TestCase):
    def test_each_stands_under_the_base(self):
        for name in ALL:
            with self.subTest(name):
                self.assertEqual(getattr(errors, name).__bases__, (errors.CarryError,))

    def test_the_base_stands_under_value_error(self):
        self.assertEqual(errors.CarryError.__bases__, (ValueError,))

    def test_none_stands_under_another_one(self):
        for name in ALL:
            for other in ALL:
                if name != other:
                    with self.subTest(name=name, other=other):
                        self.assertFalse(issubclass(getattr(errors, name), getattr(errors, other)))

    def test_each_is_raised_and_taken_by_its_class_and_by_the_bases(self):
        for name in ALL:
            made = getattr(errors, name)
            for base in (made, errors.CarryError, ValueError):
                with self.subTest(name=name, base=base), self.assertRaises(base):
                    raise made("a text")


class Made(unittest.TestCase):
    def test_the_base_and_eleven_are_made_of_a_text(self):
        for name in MADE_OF_TEXT + ("CarryError",):
            with self.subTest(name):
                self.assertEqual(str(getattr(errors, name)("some words")), "some words")

    def test_no_line_keeps_the_one_thing_it_is_made_of(self):
        for line in (0, 7, -1, 10 ** 6000, -(10 ** 6000), "text", None, (1, 2)):
            made = errors.NoLine(line)
            # Compared without assertEqual, which would write a very big number as a text.
            self.assertTrue(made.line is line)

    def test_no_line_can_be_shown_whatever_its_line(self):
        for line in (3, -4, 10 ** 6000):
            self.assertIsInstance(str(errors.NoLine(line)), str)

    def test_no_line_is_made_of_no_more_and_no_fewer(self):
        with self.assertRaises(TypeError):
            errors.NoLine()
        with self.assertRaises(TypeError):
            errors.NoLine(1, 2)

    def test_lines_of_two_refusals_are_their_own(self):
        first = errors.NoLine(1)
        second = errors.NoLine(2)
        self.assertEqual((first.line, second.line), (1, 2))


if __name__ == "__main__":
    unittest.main()
