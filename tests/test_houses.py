"""Promises 2, 3, 6, 7 and 8: houses, whether they fit, and what can be come to."""

import copy
import itertools
import unittest

from carry.errors import CarryError, NoHand, NoName, NoOut, NoSize
from carry.houses import belt_of, reached, right_house

BIG = 10 ** 6000
DEEP = []
for depth in range(5000):
    DEEP = [DEEP]
NO_NAMES = (
    None, True, False, 0, 1, -1, BIG, "", "abcdefghi", "A", "a1", "a b", "a\n", "a-b",
    [], ["hand"], (), ("hand",), [["hand"], ("main", 1)], DEEP,
)


def good_house():
    belts = [
        ("main", 3, False, ["loop", "side"]),
        ("loop", 4, True, ["paris", "side"]),
        ("side", 1, False, ["oslo", "hand"]),
    ]
    return (belts, ["hand", "paris", "oslo"])


def one_belt(outs, carts, long=1, ring=False):
    return ([("main", long, ring, outs)], carts)


class HouseCase(unittest.TestCase):
    def fits(self, house):
        before = copy.deepcopy(house)
        self.assertIs(right_house(house), True)
        self.assertEqual(house, before)

    def refused(self, house, refusal):
        # DEEP can't be copied deep, so here the parts are copied by hand.
        belts = [(name, long, ring, list(outs)) for name, long, ring, outs in house[0]]
        carts = list(house[1])
        with self.assertRaises(CarryError) as caught:
            right_house(house)
        self.assertIs(type(caught.exception), refusal)
        self.assertIsInstance(str(caught.exception), str)
        self.assertTrue(all(map(same_belt, house[0], belts)) and len(house[0]) == len(belts))
        self.assertTrue(same_things(house[1], carts))


def same_things(ones, others):
    return len(ones) == len(others) and all(one is other for one, other in zip(ones, others))


def same_belt(one, other):
    return same_things(one[:3], other[:3]) and same_things(one[3], other[3])


class Fits(HouseCase):
    def test_ordinary(self):
        self.fits(good_house())

    def test_no_belts(self):
        self.fits(([], ["hand"]))
        self.fits(([], ["hand", "paris"]))

    def test_shortest_belt_and_ring(self):
        self.fits(one_belt(["hand"], ["hand"], 1, False))
        self.fits(one_belt(["hand"], ["hand"], 2, True))

    def test_long_belts(self):
        self.fits(one_belt(["hand"], ["hand"], 999999999, False))
        self.fits(one_belt(["hand"], ["hand"], 999999999, True))

    def test_hand_over_several_belts_and_carts_that_none_comes_to(self):
        self.fits(([
            ("a", 1, False, ["b"]),
            ("b", 2, True, ["c"]),
            ("c", 1, False, ["d", "oslo"]),
            ("d", 1, False, ["hand"]),
        ], ["hand", "oslo", "rome"]))

    def test_names_of_one_and_of_eight_letters(self):
        self.fits(([("z", 1, False, ["abcdefgh"])], ["abcdefgh"]))
        self.fits(([("abcdefgh", 1, False, ["z"])], ["z"]))

    def test_outs_in_any_order_and_all_at_once(self):
        for outs in itertools.permutations(["side", "hand", "oslo"]):
            with self.subTest(outs=outs):
                self.fits(([("main", 1, False, list(outs)), ("side", 1, False, ["hand"])], ["hand", "oslo"]))

    def test_the_same_out_of_two_belts(self):
        self.fits(([("a", 1, False, ["hand"]), ("b", 1, False, ["hand"])], ["hand"]))

    def test_the_same_list_as_the_outs_of_two_belts(self):
        outs = ["hand"]
        self.fits(([("a", 1, False, outs), ("b", 1, False, outs)], ["hand"]))

    def test_somewhat_beyond_the_bounds(self):
        names = ["b" + letter for letter in "abcdefghijklmnopqrst"]
        belts = [(name, 9, True, names[k + 1:] + ["hand"]) for k, name in enumerate(names)]
        self.fits((belts, ["hand"] + ["c" + letter for letter in "abcdefgh"]))

    def test_asked_twice_tells_the_same(self):
        house = good_house()
        self.fits(house)
        self.fits(house)


class Carts(HouseCase):
    def test_a_cart_that_is_no_name(self):
        for thing in NO_NAMES:
            self.refused(([], [thing]), NoName)
            self.refused(one_belt(["hand"], ["hand", thing]), NoName)

    def test_a_cart_told_twice(self):
        self.refused(([], ["hand", "hand"]), NoName)
        self.refused(one_belt(["hand"], ["hand", "oslo", "hand"]), NoName)
        self.refused(one_belt(["hand"], ["hand", "oslo", "oslo"]), NoName)

    def test_no_cart(self):
        self.refused(([], []), NoHand)
        self.refused(one_belt(["hand"], []), NoHand)


class Belts(HouseCase):
    def test_a_belt_whose_name_is_none(self):
        for thing in NO_NAMES:
            self.refused(([(thing, 1, False, ["hand"])], ["hand"]), NoName)
            self.refused(([("main", 1, False, ["hand"]), (thing, 1, False, ["hand"])], ["hand"]), NoName)

    def test_a_belt_called_like_a_cart(self):
        for cart in ("hand", "oslo"):
            self.refused(([(cart, 1, False, ["hand"])], ["hand", "oslo"]), NoName)

    def test_a_belt_called_like_an_earlier_one(self):
        belt = ("main", 1, False, ["hand"])
        self.refused(([belt, belt], ["hand"]), NoName)
        self.refused(([belt, ("side", 1, False, ["hand"]), belt], ["hand"]), NoName)

    def test_too_short(self):
        for long in (0, -1, -999999999):
            self.refused(one_belt(["hand"], ["hand"], long, False), NoSize)
            self.refused(one_belt(["hand"], ["hand"], long, True), NoSize)
        self.refused(one_belt(["hand"], ["hand"], 1, True), NoSize)

    def test_too_short_behind_one_that_is_right(self):
        for bad in (("side", 0, False, ["hand"]), ("side", 1, True, ["hand"])):
            self.refused(([("main", 1, False, ["hand"]), bad], ["hand"]), NoSize)


class Outs(HouseCase):
    def behind(self, outs):
        last = ("side", 1, False, ["hand"])
        return ([("first", 1, False, ["hand"]), ("main", 2, True, outs), last], ["hand", "oslo"])

    def test_an_out_that_is_no_name(self):
        for thing in NO_NAMES:
            self.refused(self.behind([thing]), NoOut)
            self.refused(self.behind([thing, "hand"]), NoOut)
            self.refused(self.behind(["hand", thing]), NoOut)

    def test_an_earlier_belt(self):
        self.refused(self.behind(["first", "hand"]), NoOut)
        self.refused(self.behind(["hand", "first"]), NoOut)

    def test_the_belt_itself(self):
        self.refused(self.behind(["main", "hand"]), NoOut)
        self.refused(one_belt(["main", "hand"], ["hand"]), NoOut)

    def test_an_unknown_name(self):
        self.refused(self.behind(["hand", "rome"]), NoOut)

    def test_an_out_named_twice(self):
        for out in ("hand", "oslo", "side"):
            self.refused(self.behind(["hand", "side", "oslo", out]), NoOut)
            self.refused(self.behind([out, out]), NoOut)

    def test_no_outs(self):
        self.refused(self.behind([]), NoOut)
        self.refused(one_belt([], ["hand"]), NoOut)

    def test_outs_that_are_no_list_are_none(self):
        for outs in (None, 0, 7, True, "", "h", "hand"):
            with self.subTest(outs=outs), self.assertRaises(NoOut):
                right_house(([("main", 1, False, outs)], ["hand", "h"]))


class Hand(HouseCase):
    def test_another_cart_alone(self):
        self.refused(one_belt(["oslo"], ["hand", "oslo"]), NoHand)
        self.refused(one_belt(["oslo"], ["hand", "oslo"], 2, True), NoHand)

    def test_the_hand_is_the_first_cart(self):
        self.fits(one_belt(["hand"], ["hand", "oslo"]))
        self.refused(one_belt(["hand"], ["oslo", "hand"]), NoHand)

    def test_over_belts_that_do_not_come_to_it(self):
        self.refused(([
            ("a", 1, False, ["b", "hand"]),
            ("b", 1, False, ["c"]),
            ("c", 1, False, ["oslo"]),
        ], ["hand", "oslo"]), NoHand)

    def test_the_last_belt_alone(self):
        self.refused(([("a", 1, False, ["hand"]), ("b", 1, False, ["oslo"])], ["hand", "oslo"]), NoHand)

    def test_the_first_belt_alone(self):
        self.refused(([("a", 1, False, ["oslo"]), ("b", 1, False, ["hand"])], ["hand", "oslo"]), NoHand)


def set_cart(at, thing):
    def spoil(belts, carts):
        carts[at] = thing
    return spoil


def set_belt(at, field, thing):
    def spoil(belts, carts):
        # A list is copied, as add_out may add to it behind this.
        belts[at][field] = list(thing) if isinstance(thing, list) else thing
    return spoil


def add_out(at, thing):
    def spoil(belts, carts):
        belts[at][3].append(thing)
    return spoil


def out_twice(at):
    def spoil(belts, carts):
        belts[at][3].append(belts[at][3][0])
    return spoil


def no_carts(belts, carts):
    carts.clear()


# In the document's order; belts 0 (main), 1 (loop, a ring), 2 (side). Each row is a
# step of that order, so of two rows the one that stands first is the one to be raised.
# NO_CART goes between the two lists, and can't be there at once with a step of the first.
CART_STEPS = [
    [(NoName, set_cart(0, None)), (NoName, set_cart(0, ["hand"]))],
    [(NoName, set_cart(1, "hand")), (NoName, set_cart(1, 5))],
    [(NoName, set_cart(2, "paris")), (NoName, set_cart(2, ("oslo",)))],
]
NO_CART = (NoHand, no_carts)
BELT_STEPS = [
    [(NoName, set_belt(0, 0, "hand")), (NoName, set_belt(0, 0, None)), (NoName, set_belt(0, 0, []))],
    [(NoSize, set_belt(0, 1, 0)), (NoSize, set_belt(0, 1, -7))],
    [(NoName, set_belt(1, 0, "main")), (NoName, set_belt(1, 0, "oslo")), (NoName, set_belt(1, 0, ("loop",)))],
    [(NoSize, set_belt(1, 1, 1)), (NoSize, set_belt(1, 1, 0))],
    [(NoName, set_belt(2, 0, "main")), (NoName, set_belt(2, 0, "Side"))],
    [(NoSize, set_belt(2, 1, 0))],
    [(NoOut, add_out(0, "main")), (NoOut, out_twice(0)), (NoOut, add_out(0, ["oslo"]))],
    [(NoOut, add_out(1, "main")), (NoOut, add_out(1, None)), (NoOut, set_belt(1, 3, []))],
    [(NoOut, add_out(2, "loop")), (NoOut, add_out(2, "rome")), (NoOut, set_belt(2, 3, []))],
    [(NoHand, set_belt(0, 3, ["oslo"]))],
    [(NoHand, set_belt(1, 3, ["paris"]))],
    [(NoHand, set_belt(2, 3, ["oslo"]))],
]
STEPS = CART_STEPS + BELT_STEPS


class Order(HouseCase):
    def spoiled(self, chosen):
        belts, carts = good_house()
        belts = [list(belt) for belt in belts]
        # From the last step on, so that of two at one place the earlier step's thing stays.
        for refusal, spoil in reversed(chosen):
            spoil(belts, carts)
        return ([tuple(belt) for belt in belts], carts)

    def test_each_alone(self):
        for k, step in enumerate(STEPS):
            for one in step:
                with self.subTest(step=k):
                    self.refused(self.spoiled([one]), one[0])

    def test_two_at_once(self):
        for (k, step), (m, later) in itertools.combinations(enumerate(STEPS), 2):
            for one, other in itertools.product(step, later):
                with self.subTest(first=k, second=m):
                    self.refused(self.spoiled([one, other]), one[0])

    def test_three_at_once(self):
        for chosen in itertools.combinations([step[0] for step in STEPS], 3):
            self.refused(self.spoiled(list(chosen)), chosen[0][0])

    def test_all_from_each_step_on(self):
        for k in range(len(STEPS)):
            with self.subTest(step=k):
                self.refused(self.spoiled([step[0] for step in STEPS[k:]]), STEPS[k][0][0])

    def test_no_cart_ahead_of_each_of_the_belts_steps(self):
        self.refused(self.spoiled([NO_CART]), NoHand)
        for k, step in enumerate(BELT_STEPS):
            for one in step:
                with self.subTest(step=k):
                    self.refused(self.spoiled([NO_CART, one]), NoHand)

    def test_a_belts_size_ahead_of_the_next_ones_name(self):
        self.refused(([("main", 0, False, []), (None, 0, False, [])], ["hand"]), NoSize)

    def test_a_belts_name_ahead_of_its_size(self):
        self.refused(([(None, 0, False, [])], ["hand"]), NoName)

    def test_a_size_ahead_of_an_earlier_belts_outs(self):
        self.refused(([("main", 1, False, []), ("side", 0, False, [])], ["hand"]), NoSize)

    def test_an_out_ahead_of_an_earlier_belts_hand(self):
        self.refused(([("main", 1, False, ["oslo"]), ("side", 1, False, [])], ["hand", "oslo"]), NoOut)

    def test_a_cart_that_is_no_name_ahead_of_a_missing_hand(self):
        self.refused(one_belt(["oslo"], [None, "oslo"]), NoName)

    def test_no_cart_ahead_of_all_of_the_belts(self):
        self.refused(([(None, 0, True, [None])], []), NoHand)


class Reached(HouseCase):
    def test_belts_in_the_houses_order_then_carts_in_theirs(self):
        house = good_house()
        self.assertEqual(reached(house, "main"), ["loop", "side", "hand", "paris", "oslo"])
        self.assertEqual(reached(house, "loop"), ["side", "hand", "paris", "oslo"])
        self.assertEqual(reached(house, "side"), ["hand", "oslo"])

    def test_outs_named_in_another_order(self):
        house = ([
            ("a", 1, False, ["rome", "d", "c"]),
            ("b", 2, True, ["oslo", "d", "hand"]),
            ("c", 3, True, ["oslo", "hand"]),
            ("d", 1, False, ["oslo", "hand"]),
        ], ["hand", "rome", "oslo", "paris"])
        self.fits(house)
        self.assertEqual(reached(house, "a"), ["c", "d", "hand", "rome", "oslo"])
        self.assertEqual(reached(house, "b"), ["d", "hand", "oslo"])
        self.assertEqual(reached(house, "c"), ["hand", "oslo"])
        self.assertEqual(reached(house, "d"), ["hand", "oslo"])

    def test_over_many_belts_one_behind_another(self):
        names = ["a", "b", "c", "d", "e", "f"]
        belts = [(name, 2, True, [after]) for name, after in zip(names, names[1:] + ["hand"])]
        house = (belts, ["hand", "oslo"])
        for k, name in enumerate(names):
            self.assertEqual(reached(house, name), names[k + 1:] + ["hand"])

    def test_a_ring_is_not_among_its_own(self):
        self.assertEqual(reached(one_belt(["hand"], ["hand"], 2, True), "main"), ["hand"])

    def test_every_house_of_three_belts_against_ways_walked_one_by_one(self):
        carts = ["hand", "oslo"]
        for last in some_outs(carts):
            for middle in some_outs(["c"] + carts):
                for first in some_outs(["c", "b"] + carts):
                    belts = [("a", 1, False, first), ("b", 2, True, middle), ("c", 1, False, last)]
                    self.against_walked((belts, carts))

    def against_walked(self, house):
        outs = {name: ends for name, long, ring, ends in house[0]}
        walked = {name: sorted(set(walk(outs, name)), key=["a", "b", "c", "hand", "oslo"].index) for name in outs}
        for name in outs:
            self.assertEqual(reached(house, name), walked[name])
        if all("hand" in names for names in walked.values()):
            self.fits(house)
        else:
            self.refused(house, NoHand)


def some_outs(names):
    return [list(row) for count in range(1, len(names) + 1) for row in itertools.permutations(names, count)]


def walk(outs, name):
    for out in outs.get(name, []):
        yield out
        yield from walk(outs, out)


class BeltOf(unittest.TestCase):
    def test_each_belt(self):
        house = good_house()
        self.assertEqual(belt_of(house, "main"), ("main", 3, False, ["loop", "side"]))
        self.assertEqual(belt_of(house, "loop"), ("loop", 4, True, ["paris", "side"]))
        self.assertEqual(belt_of(house, "side"), ("side", 1, False, ["oslo", "hand"]))

    def test_kinds(self):
        told = belt_of(good_house(), "loop")
        self.assertEqual([type(part) for part in told], [str, int, bool, list])
        self.assertIs(type(told), tuple)

    def test_none_of_carts_and_of_names_that_nothing_has(self):
        house = good_house()
        for name in ("hand", "paris", "oslo", "rome", "mai", "mainn"):
            with self.subTest(name):
                self.assertIsNone(belt_of(house, name))
        self.assertIsNone(belt_of(([], ["hand"]), "main"))


class Own(unittest.TestCase):
    """Promise 2: nothing handed in is changed, and what is told is the asker's own."""

    def test_asking_changes_no_house(self):
        house = good_house()
        for name in ("main", "loop", "side", "hand", "rome"):
            belt_of(house, name)
            self.assertEqual(repr(house), repr(good_house()))
        for name in ("main", "loop", "side"):
            reached(house, name)
            self.assertEqual(repr(house), repr(good_house()))
        right_house(house)
        self.assertEqual(repr(house), repr(good_house()))

    def test_a_told_belt_is_the_askers_own(self):
        house = good_house()
        told = belt_of(house, "main")
        told[3].clear()
        told[3].append("rome")
        self.assertEqual(repr(house), repr(good_house()))
        self.assertEqual(belt_of(house, "main"), ("main", 3, False, ["loop", "side"]))
        self.assertIsNot(belt_of(house, "main")[3], belt_of(house, "main")[3])

    def test_what_can_be_come_to_is_the_askers_own(self):
        house = good_house()
        for name in ("main", "side"):
            told = reached(house, name)
            kept = list(told)
            told.clear()
            told.append("rome")
            self.assertEqual(repr(house), repr(good_house()))
            self.assertEqual(reached(house, name), kept)

    def test_a_changed_house_changes_nothing_that_was_told(self):
        house = good_house()
        belt = belt_of(house, "loop")
        names = reached(house, "loop")
        house[0][1][3].append("rome")
        house[0].clear()
        house[1].clear()
        self.assertEqual(belt, ("loop", 4, True, ["paris", "side"]))
        self.assertEqual(names, ["side", "hand", "paris", "oslo"])

    def test_a_house_is_looked_at_anew_each_time(self):
        house = good_house()
        self.assertIs(right_house(house), True)
        house[1].append("hand")
        with self.assertRaises(NoName):
            right_house(house)
        house[1].pop()
        self.assertIs(right_house(house), True)


if __name__ == "__main__":
    unittest.main()
