"""Promises 2, 3, 12 and 13: how a house is written as a text, and how a text is read."""

import copy
import itertools
import unittest

from carry.errors import CarryError, NoHand, NoLine, NoName, NoOut, NoSize
from carry.housetexts import read_house, shown_house
from plain import house_at_the_bounds, ordinary_house, small_houses

ORDINARY = "\n".join([
    "belt main 3 to loop side",
    "ring loop 4 to paris side",
    "belt side 1 to oslo hand",
    "cart hand",
    "cart paris",
    "cart oslo",
    "cart rome",
])


def word_house():
    """Names that are words of lines."""
    belts = [("belt", 1, False, ["ring", "to"]), ("ring", 2, True, ["to", "cart"])]
    return (belts, ["to", "cart"])


class Shown(unittest.TestCase):
    def test_belts_rings_several_outs_and_carts(self):
        self.assertEqual(shown_house(ordinary_house()), ORDINARY)

    def test_one_belt_and_one_out(self):
        self.assertEqual(shown_house(([("a", 1, False, ["hand"])], ["hand"])), "belt a 1 to hand\ncart hand")
        self.assertEqual(shown_house(([("a", 2, True, ["hand"])], ["hand"])), "ring a 2 to hand\ncart hand")

    def test_a_house_without_belts(self):
        self.assertEqual(shown_house(([], ["hand"])), "cart hand")
        self.assertEqual(shown_house(([], ["hand", "oslo"])), "cart hand\ncart oslo")

    def test_numbers_by_figures(self):
        for long in (1, 9, 10, 30, 100, 999999999):
            text = shown_house(([("a", long, False, ["hand"])], ["hand"]))
            self.assertEqual(text, f"belt a {long} to hand\ncart hand")

    def test_outs_in_the_arms_order(self):
        for outs in itertools.permutations(["b", "hand", "oslo"]):
            house = ([("a", 1, False, list(outs)), ("b", 1, False, ["hand"])], ["hand", "oslo"])
            self.assertEqual(shown_house(house).split("\n")[0], "belt a 1 to " + " ".join(outs))

    def test_names_that_are_words_of_lines(self):
        text = "belt belt 1 to ring to\nring ring 2 to to cart\ncart to\ncart cart"
        self.assertEqual(shown_house(word_house()), text)


class Read(unittest.TestCase):
    def test_ordinary(self):
        self.assertEqual(read_house(ORDINARY), ordinary_house())

    def test_kinds(self):
        house = read_house(ORDINARY)
        self.assertIs(type(house), tuple)
        self.assertEqual([type(part) for part in house], [list, list])
        for belt in house[0]:
            self.assertEqual([type(part) for part in belt], [str, int, bool, list])
            self.assertIs(type(belt), tuple)

    def test_what_was_written_is_read_as_it_was(self):
        houses = [ordinary_house(), house_at_the_bounds(), word_house(), ([], ["hand"]), *small_houses(5, 80)]
        for house in houses:
            text = shown_house(house)
            self.assertEqual(read_house(text), house)
            self.assertEqual(shown_house(read_house(text)), text)

    def test_lines_of_belts_and_of_carts_mixed(self):
        belts, carts = ORDINARY.split("\n")[:3], ORDINARY.split("\n")[3:]
        for taken in itertools.combinations(range(7), 3):
            ones, others = list(belts), list(carts)
            lines = [ones.pop(0) if number in taken else others.pop(0) for number in range(7)]
            self.assertEqual(read_house("\n".join(lines)), ordinary_house())

    def test_each_sort_in_the_order_of_its_lines(self):
        text = "cart oslo\nbelt b 1 to oslo\ncart hand\nring a 3 to hand oslo"
        asked = ([("b", 1, False, ["oslo"]), ("a", 3, True, ["hand", "oslo"])], ["oslo", "hand"])
        self.assertEqual(read_house(text), asked)

    def test_numbers_of_one_to_nine_figures(self):
        for word in ("2", "10", "100", "30", "123456789", "999999999"):
            house = read_house(f"ring a {word} to hand\ncart hand")
            self.assertEqual(house, ([("a", int(word), True, ["hand"])], ["hand"]))

    def test_thirty_lines_of_200_signs(self):
        carts = ["c" + one + other for one in "abcde" for other in "abcdef"]
        lines = [f"cart {cart}" for cart in carts[:29]]
        outs = " ".join(carts[:29])
        house = read_house("\n".join([f"belt main 30 to {outs}"] + lines))
        self.assertEqual(house, ([("main", 30, False, carts[:29])], carts[:29]))


class ReadCase(unittest.TestCase):
    def refused(self, text, refusal):
        with self.assertRaises(CarryError) as caught:
            read_house(text)
        self.assertIs(type(caught.exception), refusal, text)
        return caught.exception

    def no_line(self, text, number):
        refusal = self.refused(text, NoLine)
        self.assertEqual(refusal.line, number, text)
        self.assertIs(type(refusal.line), int)


NO_LINES = (
    # another first word
    "", "bel main 3 to hand", "belts main 3 to hand", "Belt main 3 to hand", "rings main 3 to hand",
    "to main 3 to hand", "main", "main 3 to hand", "carts oslo", "hand oslo", "CART oslo", "3",
    # too few words
    "belt", "belt main", "belt main 3", "belt main 3 to", "belt 3 to hand", "belt main to hand",
    "ring", "ring main", "ring main 3", "ring main 3 to", "belt oslo", "ring oslo",
    # a fourth word that is not to
    "belt main 3 too hand", "belt main 3 hand to", "belt main 3 To hand", "ring main 3 hand hand",
    "belt to main 3 hand", "belt main to 3 hand",
    # a cart's line of one or of three words
    "cart", "cart oslo paris", "cart oslo paris rome", "cart oslo 3 to hand",
    # words without signs
    " ", "  ", "belt  main 3 to hand", "belt main  3 to hand", "belt main 3  to hand", "belt main 3 to  hand",
    " belt main 3 to hand", "belt main 3 to hand ", "belt main 3 to ", "ring main 3 to hand  oslo",
    "belt  3 to hand", "cart ", " cart", "cart  oslo", " cart oslo", "cart oslo ", "cart  ",
    # numbers that are none
    "belt main 03 to hand", "belt main 00 to hand", "belt main 007 to hand", "ring main 03 to hand",
    "belt main +3 to hand", "belt main -3 to hand", "belt main -0 to hand", "belt main 0x3 to hand",
    "belt main 1234567890 to hand", "belt main 0000000003 to hand", "belt main 1000000000 to hand",
    "ring main 9999999999999999999999 to hand",
    "belt main 3a to hand", "belt main a3 to hand", "belt main three to hand", "belt main 3.0 to hand",
    "belt main 3_0 to hand", "belt main 1e3 to hand", "belt main 3, to hand", "belt main to to hand",
    "ring main x to hand", "belt main - to hand", "belt main + to hand",
)


class NoLines(ReadCase):
    def test_each_sort_of_line_that_is_none(self):
        for line in NO_LINES:
            with self.subTest(line):
                self.no_line(line, 0)
                self.no_line(line + "\ncart hand", 0)
                self.no_line("cart hand\n" + line, 1)
                self.no_line("belt main 3 to hand\n" + line + "\ncart hand", 1)
                self.no_line(ORDINARY + "\n" + line, 7)

    def test_the_first_of_several(self):
        for one, other in itertools.combinations(range(7), 2):
            for bad, worse in (("", "cart"), ("belt a 03 to hand", ""), ("cart  hand", "belt")):
                lines = ORDINARY.split("\n")
                lines[one] = bad
                lines[other] = worse
                self.no_line("\n".join(lines), one)

    def test_an_empty_text_and_line_ends_alone(self):
        self.no_line("", 0)
        self.no_line("\n", 0)
        self.no_line("\n\n", 0)

    def test_a_line_end_ahead_and_behind(self):
        self.no_line("\n" + ORDINARY, 0)
        self.no_line(ORDINARY + "\n", 7)
        self.no_line(ORDINARY.replace("\ncart hand", "\n\ncart hand"), 3)

    def test_a_line_that_is_none_behind_a_house_that_is_refused(self):
        for text in (
            "cart Hand", "cart hand\ncart hand", "belt a 0 to hand\ncart hand", "ring a 1 to hand\ncart hand",
            "belt a 1 to a\ncart hand", "belt a 1 to hand", "belt a 1 to oslo\ncart hand\ncart oslo",
        ):
            lines = text.split("\n")
            with self.subTest(text):
                self.no_line(text + "\n", len(lines))
                self.no_line(text + "\nbelt b 01 to hand", len(lines))


class Refused(ReadCase):
    def test_no_cart_at_all(self):
        self.refused("belt a 1 to hand", NoHand)
        self.refused("ring Main 0 to a a", NoHand)

    def test_names(self):
        for name in ("A", "a1", "abcdefghi", "a-b", "3", "to!", "a,b", "~"):
            with self.subTest(name):
                self.refused(f"cart {name}", NoName)
                self.refused(f"cart hand\ncart {name}", NoName)
                self.refused(f"belt {name} 1 to hand\ncart hand", NoName)
                self.refused(f"belt a 1 to hand {name}\ncart hand", NoOut)

    def test_names_twice(self):
        self.refused("cart hand\ncart hand", NoName)
        self.refused("belt hand 1 to hand\ncart hand", NoName)
        self.refused("cart hand\nbelt a 1 to hand\nring a 2 to hand", NoName)

    def test_longs(self):
        self.refused("belt a 0 to hand\ncart hand", NoSize)
        self.refused("ring a 0 to hand\ncart hand", NoSize)
        self.refused("ring a 1 to hand\ncart hand", NoSize)
        self.assertEqual(read_house("belt a 1 to hand\ncart hand")[0][0][1], 1)

    def test_outs(self):
        for outs in ("a", "oslo", "hand hand", "b b hand", "hand to", "3"):
            with self.subTest(outs):
                self.refused(f"belt a 1 to {outs}\nbelt b 1 to hand\ncart hand", NoOut)
        self.refused("belt b 1 to hand\nbelt a 1 to b\ncart hand", NoOut)

    def test_the_hand_can_not_be_come_to(self):
        self.refused("belt a 1 to oslo\ncart hand\ncart oslo", NoHand)
        self.refused("belt a 1 to oslo\ncart oslo\ncart hand\nbelt b 1 to hand", NoHand)

    def test_in_the_order_of_7_whatever_the_order_of_lines(self):
        # Each row is met ahead of all behind it.
        rows = (
            ("cart Oslo", NoName), ("belt Big 1 to hand", NoName), ("ring small 1 to hand", NoSize),
            ("belt self 1 to self", NoOut), ("belt lost 1 to rome", NoHand),
        )
        carts = ["cart hand", "cart rome"]
        for number, (line, refusal) in enumerate(rows):
            for order in itertools.permutations([row[0] for row in rows[number:]]):
                asked = refusal
                # Belts are looked at one by one, each one's name and then its long.
                if number == 1 and order.index(rows[2][0]) < order.index(line):
                    asked = NoSize
                self.refused("\n".join(list(order) + carts), asked)
                self.refused("\n".join(carts + list(order)), asked)


class Own(unittest.TestCase):
    """Promise 2: nothing handed in is changed, and what is told is the asker's own."""

    def test_showing_changes_no_house(self):
        for house in (ordinary_house(), house_at_the_bounds(), word_house()):
            before = copy.deepcopy(house)
            shown_house(house)
            self.assertEqual(house, before)

    def test_a_read_house_is_the_askers_own(self):
        house = read_house(ORDINARY)
        house[0][0][3].clear()
        house[0].pop()
        house[1].append("lima")
        self.assertEqual(read_house(ORDINARY), ordinary_house())

    def test_a_shown_text_stays_when_the_house_is_changed(self):
        house = ordinary_house()
        text = shown_house(house)
        house[0][0][3].append("hand")
        self.assertEqual(text, ORDINARY)
        self.assertEqual(shown_house(house).split("\n")[0], "belt main 3 to loop side hand")

    def test_a_refusal_changes_nothing_that_is_told_next(self):
        with self.assertRaises(NoLine):
            read_house(ORDINARY + "\n")
        self.assertEqual(read_house(ORDINARY), ordinary_house())


if __name__ == "__main__":
    unittest.main()
