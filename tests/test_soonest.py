"""Promises 2, 4 and 17: the least number of turns, ways for all, and a cut for one turn fewer."""

import copy
import itertools
import random
import unittest

from carry.cuts import cuts, goes, together
from carry.errors import CarryError, NoWay
from carry.intime import in_time
from carry.soonest import soonest
from plain import (all_places, apart, house_at_the_bounds, is_cut, meeting_houses, ordinary_house, plain_far,
                   plain_steps, small_houses, some_places, soonest_by_moments)


class SoonestCase(unittest.TestCase):
    def told(self, house, places, cart):
        """What the soonest tells, once it is looked at: the ways are right, and the cut shows it for one turn fewer."""
        before = copy.deepcopy((house, places))
        answer = soonest(house, places, cart)
        self.assertEqual((house, places), before)
        self.assertEqual([type(answer)] + [type(part) for part in answer], [tuple, int, list, list])
        turns, ways, cut = answer
        self.assertEqual([k for k, told in ways], list(range(len(places))))
        for k, told in ways:
            self.assertIs(type(told), list)
            self.assertIn(len(told) - 1, range(1, turns + 1))
            self.assertEqual((told[0], told[-1]), (places[k], cart))
            for here, there in zip(told, told[1:]):
                self.assertIn(there, plain_steps(house, here) + [here])
            self.assertIs(goes(house, places[k], cart, told), True)
        self.assertIs(together([told for k, told in ways]), True)
        self.assertTrue(apart([told for k, told in ways]))
        if places:
            self.right_cut(house, places, cart, turns - 1, cut)
        return answer

    def right_cut(self, house, places, cart, turns, cut):
        self.assertLess(len(cut), len(places))
        self.assertEqual(len(set(cut)), len(cut))
        for spot in cut:
            self.assertEqual([type(part) for part in spot], [str, int, int])
            self.assertIn(spot[:2], all_places(house))
            self.assertGreaterEqual(spot[2], 0)
        self.assertIs(cuts(house, places, cart, turns, cut), True)

    def turns(self, house, places, cart):
        return self.told(house, places, cart)[0]


def line_house(long=4, ring=False):
    return ([("a", long, ring, ["hand", "oslo"])], ["hand", "oslo", "rome"])


def gate_house(count, long):
    """So many belts of one cell, which all lead onto one of so many."""
    names = [chr(ord("a") + k) for k in range(count)]
    belts = [(name, 1, False, ["gate"]) for name in names] + [("gate", long, False, ["oslo", "hand"])]
    return (belts, ["hand", "oslo"])


class Few(SoonestCase):
    def test_no_places(self):
        for house in (ordinary_house(), line_house(), house_at_the_bounds()):
            for cart in house[1]:
                self.assertEqual(soonest(house, [], cart), (0, [], []))

    def test_one_place_is_its_far(self):
        for house in (ordinary_house(), line_house(), line_house(3, True), house_at_the_bounds()):
            for place in all_places(house):
                for cart in house[1]:
                    least = plain_far(house, place, cart)
                    if least is not None:
                        self.assertEqual(self.turns(house, [place], cart), least)

    def test_one_place_at_the_very_end(self):
        self.assertEqual(soonest(line_house(), [("a", 3)], "oslo"), (1, [(0, [("a", 3), "oslo"])], []))

    def test_one_place_has_no_spot_in_its_cut(self):
        self.assertEqual(soonest(line_house(), [("a", 1)], "hand"),
                         (3, [(0, [("a", 1), ("a", 2), ("a", 3), "hand"])], []))


class Several(SoonestCase):
    def test_on_one_belt(self):
        house = line_house(5)
        for count in range(1, 6):
            for places in itertools.permutations(all_places(house), count):
                self.assertEqual(self.turns(house, list(places), "oslo"), max(5 - cell for belt, cell in places))

    def test_on_belts_that_meet(self):
        for count in range(1, 9):
            for long in (1, 2, 5):
                house = gate_house(count, long)
                places = [(belt[0], 0) for belt in house[0][:-1]]
                self.assertEqual(self.turns(house, places, "oslo"), long + count)
                self.assertEqual(self.turns(house, places[::-1], "oslo"), long + count)

    def test_the_cut_where_the_gate_is_too_narrow(self):
        # Within five turns each of the five goes over the gate's cells, which let four through by then.
        turns, ways, cut = self.told(gate_house(5, 1), [(name, 0) for name in "abcde"], "oslo")
        self.assertEqual(turns, 6)
        self.assertEqual(sorted(cut), [("gate", 0, moment) for moment in range(1, 5)])

    def test_the_cut_where_one_is_too_far_by_itself(self):
        turns, ways, cut = self.told(line_house(9), [("a", 8), ("a", 0)], "oslo")
        self.assertEqual((turns, len(cut)), (9, 1))

    def test_on_a_ring(self):
        for long in (2, 3, 8):
            house = line_house(long, True)
            self.assertEqual(self.turns(house, all_places(house), "oslo"), long)

    def test_on_rings_that_meet(self):
        house = ([("a", 2, True, ["c"]), ("b", 2, True, ["c"]), ("c", 2, True, ["oslo", "hand"])], ["hand", "oslo"])
        self.assertEqual(self.turns(house, all_places(house), "oslo"), 6)
        self.assertEqual(self.turns(house, [("a", 0), ("b", 0)], "oslo"), 5)
        self.assertEqual(self.turns(house, [("a", 1), ("b", 1)], "oslo"), 4)

    def test_onto_the_cart_from_two_belts_at_once(self):
        house = ([("a", 3, False, ["oslo", "hand"]), ("b", 3, False, ["oslo", "hand"])], ["hand", "oslo"])
        self.assertEqual(self.turns(house, all_places(house), "oslo"), 3)

    def test_one_that_has_to_go_the_longer_way(self):
        # Over x alone they are there after 2, 3 and 4 turns; by y one of them is there after 3.
        belts = [("a", 1, False, ["x"]), ("b", 1, False, ["x"]), ("c", 1, False, ["x", "y"]),
                 ("x", 1, False, ["oslo", "hand"]), ("y", 2, False, ["oslo", "hand"])]
        places = [("a", 0), ("b", 0), ("c", 0)]
        self.assertEqual(self.turns((belts, ["hand", "oslo"]), places, "oslo"), 3)
        belts[2] = ("c", 1, False, ["x"])
        self.assertEqual(self.turns((belts, ["hand", "oslo"]), places, "oslo"), 4)

    def test_other_bags_are_as_if_they_were_not_there(self):
        self.assertEqual(self.turns(line_house(), [("a", 0)], "oslo"), 4)

    def test_the_hand_is_a_cart_like_others(self):
        self.assertEqual(self.turns(ordinary_house(), all_places(ordinary_house()), "hand"), 8)


class Never(SoonestCase):
    def test_refused_just_where_one_can_never_be_there(self):
        refused = 0
        for number, house in enumerate([*small_houses(5, 80), ordinary_house(), house_at_the_bounds()]):
            for cart in house[1]:
                places = some_places(number, house, 4)
                if None in [plain_far(house, place, cart) for place in places]:
                    refused += 1
                    with self.assertRaises(NoWay) as caught:
                        soonest(house, places, cart)
                    self.assertIs(type(caught.exception), NoWay)
                    self.assertIsInstance(caught.exception, CarryError)
                else:
                    self.told(house, places, cart)
        self.assertGreater(refused, 30)

    def test_whichever_of_them_it_is(self):
        house = ordinary_house()
        for places in itertools.permutations([("main", 0), ("loop", 3), ("side", 0)]):
            with self.assertRaises(NoWay):
                soonest(house, list(places), "paris")
            self.told(house, list(places), "oslo")
        for place in all_places(house):
            with self.assertRaises(NoWay):
                soonest(house, [place], "rome")

    def test_refused_it_changes_nothing(self):
        house, places = ordinary_house(), [("main", 0), ("side", 0)]
        with self.assertRaises(NoWay):
            soonest(house, places, "paris")
        self.assertEqual((house, places), (ordinary_house(), [("main", 0), ("side", 0)]))


def reachable(seed, house, cart, most):
    """Some of the places from which the cart can be come to."""
    places = [place for place in all_places(house) if plain_far(house, place, cart) is not None]
    return random.Random(seed).sample(places, min(most, len(places)))


class Least(SoonestCase):
    def test_against_a_plain_search(self):
        later = 0
        for number, house in enumerate([*small_houses(21, 120), *meeting_houses(21, 120)]):
            cart = random.Random(number).choice(house[1])
            places = reachable(number, house, cart, number % 6 + 1)
            turns, ways, cut = self.told(house, places, cart)
            self.assertEqual(turns, soonest_by_moments(house, places, cart))
            later += turns > max([plain_far(house, place, cart) for place in places], default=0)
            if 0 < turns <= 7:
                self.assertTrue(is_cut(house, places, cart, turns - 1, cut))
        # So that the search is about more than how far each place is by itself.
        self.assertGreater(later, 40)

    def test_eight_places_against_a_plain_search(self):
        for number, house in enumerate(meeting_houses(22, 16)):
            places = reachable(number, house, "oslo", 8)
            self.assertEqual(self.turns(house, places, "oslo"), soonest_by_moments(house, places, "oslo"))

    def test_as_in_time_tells(self):
        for number, house in enumerate([*meeting_houses(23, 40), house_at_the_bounds()]):
            for cart in house[1]:
                places = reachable(number, house, cart, 8)
                turns = self.turns(house, places, cart)
                self.assertEqual(len(in_time(house, places, cart, turns)[0]), len(places))
                if turns > 0:
                    self.assertLess(len(in_time(house, places, cart, turns - 1)[0]), len(places))


class Bounds(SoonestCase):
    def test_eight_places_in_a_house_at_the_bounds(self):
        house = house_at_the_bounds()
        for number in range(12):
            for cart in house[1]:
                self.told(house, reachable(number, house, cart, 8), cart)
        for cart in ("hand", "oslo", "lima"):
            self.told(house, all_places(house)[:8], cart)
            self.told(house, all_places(house)[-8:] if cart == "hand" else all_places(house)[8:16], cart)

    def test_one_belt_of_thirty_cells(self):
        house = line_house(30)
        self.assertEqual(self.turns(house, all_places(house)[:8], "oslo"), 30)
        self.assertEqual(self.turns(house, all_places(house)[-8:], "oslo"), 8)
        self.assertEqual(self.turns(line_house(30, True), all_places(house)[:8], "oslo"), 30)

    def test_the_most_turns_within_thirty_cells(self):
        house = gate_house(5, 25)
        places = [(belt[0], 0) for belt in house[0]]
        self.assertEqual(self.turns(house, places, "oslo"), 30)

    def test_forty_turns(self):
        house = gate_house(8, 32)
        self.assertEqual(self.turns(house, [(name, 0) for name in "abcdefgh"], "oslo"), 40)

    def test_somewhat_beyond_forty_turns(self):
        house = gate_house(10, 40)
        self.assertEqual(self.turns(house, [(name, 0) for name in "abcdefghij"], "oslo"), 50)


class Own(SoonestCase):
    """Promise 2: nothing handed in is changed, and what is told is the asker's own."""

    def test_what_was_told_is_the_askers_own(self):
        house, places = ordinary_house(), [("main", 0), ("loop", 3), ("side", 0)]
        first = self.told(house, places, "oslo")
        for k, told in first[1]:
            told.clear()
        first[1].clear()
        first[2].append(("main", 0, 0))
        self.assertEqual((house, places), (ordinary_house(), [("main", 0), ("loop", 3), ("side", 0)]))
        self.told(house, places, "oslo")

    def test_of_no_places_too(self):
        first = soonest(ordinary_house(), [], "oslo")
        first[1].append(1)
        first[2].append(1)
        self.assertEqual(soonest(ordinary_house(), [], "oslo"), (0, [], []))

    def test_what_is_handed_in_may_be_changed_later(self):
        house, places = ordinary_house(), [("main", 0), ("loop", 3)]
        answer = self.told(house, places, "oslo")
        kept = copy.deepcopy(answer)
        places.clear()
        house[0].clear()
        self.assertEqual(answer, kept)


if __name__ == "__main__":
    unittest.main()
