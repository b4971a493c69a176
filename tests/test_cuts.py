"""Promises 2, 14 and 16: what a way by turns is, which go together, and what cuts them all."""

import copy
import itertools
import random
import unittest

from carry.cuts import cuts, goes, together
from plain import (all_places, all_ways, apart, house_at_the_bounds, is_cut, ordinary_house, small_houses,
                   some_places)


def line_house(long=3, ring=False):
    return ([("a", long, ring, ["hand", "oslo"])], ["hand", "oslo"])


def cells(name, *numbers):
    return [(name, number) for number in numbers]


class GoesCase(unittest.TestCase):
    def goes(self, house, told, cart, place=None):
        self.assertIs(goes(house, place or told[0], cart, told), True, told)

    def goes_not(self, house, told, cart, place):
        self.assertIs(goes(house, place, cart, told), False, told)


class Goes(GoesCase):
    def test_without_standing(self):
        self.goes(line_house(), cells("a", 0, 1, 2) + ["oslo"], "oslo")
        self.goes(line_house(), cells("a", 0, 1, 2) + ["hand"], "hand")
        self.goes(line_house(), cells("a", 2) + ["oslo"], "oslo")

    def test_with_standing(self):
        self.goes(line_house(), cells("a", 0, 0, 0, 1, 2) + ["oslo"], "oslo")
        self.goes(line_house(), cells("a", 1, 1, 2, 2, 2) + ["oslo"], "oslo")
        self.goes(line_house(1), cells("a", 0, 0, 0, 0) + ["oslo"], "oslo")

    def test_over_several_belts(self):
        house = ordinary_house()
        self.goes(house, cells("main", 1, 2) + cells("side", 0, 0) + ["oslo"], "oslo")
        self.goes(house, cells("main", 2) + cells("loop", 0, 1, 2, 3) + ["paris"], "paris")
        self.goes(house, cells("main", 2) + cells("loop", 0, 1, 2, 3) + cells("side", 0) + ["hand"], "hand")

    def test_round_a_ring(self):
        self.goes(line_house(3, True), cells("a", 1, 2, 0, 1, 2, 0, 0, 1, 2) + ["oslo"], "oslo")
        self.goes(ordinary_house(), cells("loop", 3, 0, 1, 2, 3) + cells("side", 0) + ["oslo"], "oslo")

    def test_longer_than_any_bound(self):
        self.goes(line_house(), cells("a", *[0] * 200, 1, 2) + ["oslo"], "oslo")

    def test_the_empty_list(self):
        self.goes_not(line_house(), [], "oslo", ("a", 2))

    def test_a_cart_alone(self):
        self.goes_not(line_house(), ["oslo"], "oslo", ("a", 2))
        self.goes_not(line_house(), ["oslo", "oslo"], "oslo", ("a", 2))

    def test_a_place_alone(self):
        self.goes_not(line_house(), [("a", 2)], "oslo", ("a", 2))

    def test_one_that_ends_in_a_cell(self):
        self.goes_not(line_house(), cells("a", 0, 1, 2), "oslo", ("a", 0))
        self.goes_not(line_house(), cells("a", 0, 0), "oslo", ("a", 0))
        self.goes_not(line_house(3, True), cells("a", 2, 0), "oslo", ("a", 2))

    def test_one_that_ends_at_another_cart_or_at_a_belts_name(self):
        self.goes_not(line_house(), cells("a", 1, 2) + ["hand"], "oslo", ("a", 1))
        self.goes_not(line_house(), cells("a", 1, 2) + ["a"], "oslo", ("a", 1))
        self.goes_not(ordinary_house(), cells("main", 2) + ["side"], "oslo", ("main", 2))

    def test_one_that_goes_on_behind_a_cart(self):
        for behind in (["oslo"], ["hand", "oslo"], [("a", 2), "oslo"], [("a", 0)], ["hand"], ["a", "oslo"]):
            self.goes_not(line_house(), cells("a", 2) + ["oslo"] + behind, "oslo", ("a", 2))
        self.goes_not(line_house(), cells("a", 2) + ["hand", "oslo"], "oslo", ("a", 2))
        self.goes_not(line_house(), cells("a", 2) + ["hand", ("a", 2), "oslo"], "oslo", ("a", 2))

    def test_one_that_leaps_over_a_cell(self):
        self.goes_not(line_house(), cells("a", 0, 2) + ["oslo"], "oslo", ("a", 0))
        self.goes_not(line_house(), cells("a", 0, 1) + ["oslo"], "oslo", ("a", 0))
        self.goes_not(line_house(4, True), cells("a", 3, 1, 2, 3) + ["oslo"], "oslo", ("a", 3))
        self.goes_not(ordinary_house(), cells("main", 1) + cells("side", 0) + ["oslo"], "oslo", ("main", 1))
        self.goes_not(ordinary_house(), cells("main", 2) + cells("loop", 1, 2, 3) + ["paris"], "paris", ("main", 2))

    def test_one_that_goes_back(self):
        self.goes_not(line_house(), cells("a", 1, 0, 1, 2) + ["oslo"], "oslo", ("a", 1))
        self.goes_not(line_house(), cells("a", 2, 0, 1, 2) + ["oslo"], "oslo", ("a", 2))
        self.goes_not(line_house(4, True), cells("a", 2, 0, 1, 2, 3) + ["oslo"], "oslo", ("a", 2))
        self.goes_not(ordinary_house(), cells("side", 0) + cells("loop", 3) + ["paris"], "paris", ("side", 0))

    def test_one_that_goes_to_no_out(self):
        self.goes_not(ordinary_house(), cells("side", 0) + ["paris"], "paris", ("side", 0))
        self.goes_not(ordinary_house(), cells("main", 2) + ["oslo"], "oslo", ("main", 2))
        self.goes_not(ordinary_house(), cells("loop", 3) + ["rome"], "rome", ("loop", 3))

    def test_one_that_begins_elsewhere(self):
        told = cells("a", 1, 2) + ["oslo"]
        self.goes(line_house(), told, "oslo", ("a", 1))
        self.goes_not(line_house(), told, "oslo", ("a", 0))
        self.goes_not(line_house(), told, "oslo", ("a", 2))
        self.goes_not(line_house(), ["a"] + told, "oslo", ("a", 1))

    def test_all_lists_of_a_small_house(self):
        for house in (line_house(2), line_house(2, True),
                      ([("a", 1, False, ["b", "oslo"]), ("b", 1, False, ["hand", "oslo"])], ["hand", "oslo"])):
            things = all_places(house) + house[1] + ["a"]
            for place in all_places(house):
                ways = all_ways(house, place, "oslo", 3)
                for long in range(5):
                    for told in itertools.product(things, repeat=long):
                        self.assertIs(goes(house, place, "oslo", list(told)), list(told) in ways)


class Together(unittest.TestCase):
    def test_none_and_one(self):
        self.assertIs(together([]), True)
        self.assertIs(together([cells("a", 0, 0, 1, 2) + ["oslo"]]), True)
        self.assertIs(together([cells("a", 0, 1, 0, 1) + ["oslo"]]), True)

    def test_two_in_one_cell_at_one_moment(self):
        one = cells("a", 0, 1, 2) + ["oslo"]
        self.assertIs(together([one, cells("a", 1, 1, 2, 2) + ["oslo"]]), False)
        self.assertIs(together([one, cells("b", 0) + cells("a", 1, 2) + ["hand"]]), False)
        self.assertIs(together([one, one]), False)

    def test_at_the_first_and_at_the_last_moment(self):
        self.assertIs(together([cells("a", 0, 0, 1) + ["oslo"], cells("a", 0, 1) + ["oslo"]]), False)
        self.assertIs(together([cells("a", 0, 1, 2) + ["oslo"], cells("a", 1, 0, 2) + ["oslo"]]), False)

    def test_one_cell_at_unlike_moments(self):
        self.assertIs(together([cells("a", 0, 1, 2) + ["oslo"], cells("a", 1, 2) + ["oslo"]]), True)
        self.assertIs(together([cells("a", 2) + ["oslo"], cells("a", 0, 1, 2) + ["oslo"]]), True)

    def test_the_same_cell_of_unlike_belts(self):
        self.assertIs(together([cells("a", 0, 1) + ["oslo"], cells("b", 0, 1) + ["oslo"]]), True)

    def test_one_that_follows_another_cell_by_cell(self):
        ways = [cells("a", 2, 3) + ["oslo"], cells("a", 1, 2, 3) + ["oslo"], cells("a", 0, 1, 2, 3) + ["oslo"]]
        for order in itertools.permutations(ways):
            self.assertIs(together(list(order)), True)

    def test_round_a_ring_all_at_once(self):
        self.assertIs(together([cells("a", 0, 1) + ["oslo"], cells("a", 1, 0, 1) + ["oslo"]]), True)
        self.assertIs(together([cells("a", 0, 1, 0, 1) + ["oslo"], cells("a", 1, 0, 1, 0, 1) + ["oslo"]]), True)

    def test_two_that_come_onto_a_cart_at_one_moment(self):
        self.assertIs(together([cells("a", 0) + ["oslo"], cells("b", 0) + ["oslo"]]), True)
        self.assertIs(together([cells("a", 0, 1) + ["oslo"], cells("b", 0, 0) + ["oslo"]]), True)

    def test_unlike_carts(self):
        self.assertIs(together([cells("a", 0) + ["oslo"], cells("b", 0) + ["hand"]]), True)
        self.assertIs(together([cells("a", 0) + ["oslo"], cells("a", 0) + ["hand"]]), False)

    def test_ways_of_unlike_length(self):
        short = cells("a", 2) + ["oslo"]
        for cell in (0, 1):
            self.assertIs(together([short, cells("a", *[cell] * 9) + ["oslo"]]), True)
        long = cells("a", 0, 0, 0, 0, 1, 2) + ["oslo"]
        self.assertIs(together([short, cells("a", 1, 2) + ["oslo"], long]), True)
        self.assertIs(together([long, cells("a", 1, 1, 1, 1, 1) + ["oslo"]]), False)

    def test_the_third_one_counts_too(self):
        ways = [cells("a", 2) + ["oslo"], cells("b", 0, 1) + ["oslo"], cells("c", 0) + cells("b", 1) + ["oslo"]]
        for order in itertools.permutations(ways):
            self.assertIs(together(list(order)), False)

    def test_all_twos_of_small_houses(self):
        for house in small_houses(6, 12, 2):
            places = all_places(house)[:4]
            for one, other in itertools.product(places, repeat=2):
                for told in all_ways(house, one, "hand", 4)[:12]:
                    for also in all_ways(house, other, "hand", 4)[:12]:
                        self.assertIs(together([told, also]), apart([told, also]))


class Cuts(unittest.TestCase):
    def test_each_moment_of_the_only_way(self):
        house = line_house()
        for moment in range(3):
            self.assertIs(cuts(house, [("a", 0)], "oslo", 3, [("a", moment, moment)]), True)

    def test_standing_goes_round_a_spot(self):
        house = line_house()
        self.assertIs(cuts(house, [("a", 0)], "oslo", 4, [("a", 0, 0)]), True)
        self.assertIs(cuts(house, [("a", 0)], "oslo", 4, [("a", 1, 1)]), False)
        self.assertIs(cuts(house, [("a", 0)], "oslo", 4, [("a", 1, 1), ("a", 0, 1)]), True)
        self.assertIs(cuts(house, [("a", 0)], "oslo", 4, [("a", 2, 2), ("a", 2, 3)]), True)
        self.assertIs(cuts(house, [("a", 0)], "oslo", 5, [("a", 2, 2), ("a", 2, 3)]), False)

    def test_another_cell_another_belt_another_moment_cut_nothing(self):
        house = ordinary_house()
        self.assertIs(cuts(house, [("main", 2)], "oslo", 2, [("side", 0, 1)]), True)
        for spot in (("side", 0, 0), ("side", 0, 2), ("loop", 0, 1), ("main", 1, 0), ("main", 2, 1), ("main", 0, 0)):
            self.assertIs(cuts(house, [("main", 2)], "oslo", 2, [spot]), False)

    def test_each_of_several_places(self):
        house = ordinary_house()
        places = [("main", 2), ("loop", 3)]
        self.assertIs(cuts(house, places, "oslo", 2, [("side", 0, 1)]), True)
        self.assertIs(cuts(house, places, "oslo", 2, [("main", 2, 0)]), False)
        self.assertIs(cuts(house, places, "oslo", 2, [("loop", 3, 0)]), False)
        self.assertIs(cuts(house, places, "oslo", 2, [("loop", 3, 0), ("main", 2, 0)]), True)

    def test_round_a_ring(self):
        house = line_house(2, True)
        # The ring is gone round once to be there at moment 4; standing would be as good.
        spots = [("a", 1, 1), ("a", 0, 1), ("a", 1, 2), ("a", 1, 3)]
        self.assertIs(cuts(house, [("a", 1)], "oslo", 4, [("a", 1, 1)]), False)
        self.assertIs(cuts(house, [("a", 1)], "oslo", 4, [("a", 1, 0)]), True)
        self.assertIs(cuts(house, [("a", 0)], "oslo", 4, spots[:1] + spots[2:]), True)
        self.assertIs(cuts(house, [("a", 0)], "oslo", 5, spots[:1] + spots[2:]), False)

    def test_only_ways_to_this_cart(self):
        house = ordinary_house()
        self.assertIs(cuts(house, [("loop", 3)], "paris", 9, []), False)
        self.assertIs(cuts(house, [("side", 0)], "paris", 9, []), True)
        self.assertIs(cuts(house, [("loop", 3)], "hand", 2, [("side", 0, 1)]), True)

    def test_the_empty_list(self):
        house = line_house()
        self.assertIs(cuts(house, [("a", 0)], "oslo", 2, []), True)
        self.assertIs(cuts(house, [("a", 0)], "oslo", 3, []), False)
        self.assertIs(cuts(house, [("a", 0), ("a", 2)], "oslo", 1, []), False)
        self.assertIs(cuts(ordinary_house(), [("main", 0)], "rome", 40, []), True)

    def test_no_places(self):
        self.assertIs(cuts(line_house(), [], "oslo", 40, []), True)
        self.assertIs(cuts(line_house(), [], "oslo", 0, [("a", 0, 0)]), True)

    def test_no_turns(self):
        for cut in ([], [("a", 0, 0)], [("a", 2, 1)]):
            self.assertIs(cuts(line_house(), [("a", 2)], "oslo", 0, cut), True)
        self.assertIs(cuts(line_house(), [("a", 2)], "oslo", 1, []), False)

    def test_spots_twice_change_nothing(self):
        house = line_house()
        self.assertIs(cuts(house, [("a", 0)], "oslo", 4, [("a", 1, 1)] * 5), False)
        self.assertIs(cuts(house, [("a", 0)], "oslo", 3, [("a", 1, 1)] * 5), True)

    def test_spots_of_later_moments_change_nothing(self):
        house = line_house()
        later = [("a", cell, moment) for cell in range(3) for moment in (3, 4, 40, 999999999)]
        self.assertIs(cuts(house, [("a", 0)], "oslo", 3, later), False)
        self.assertIs(cuts(house, [("a", 0)], "oslo", 3, later + [("a", 1, 1)]), True)
        self.assertIs(cuts(house, [("a", 0)], "oslo", 2, later), True)

    def test_forty_turns(self):
        house = ordinary_house()
        gate = [("side", 0, moment) for moment in range(40)]
        self.assertIs(cuts(house, all_places(house)[:-1], "oslo", 40, gate), True)
        for left in range(1, 40):
            self.assertIs(cuts(house, all_places(house)[:-1], "oslo", 40, gate[:left] + gate[left + 1:]), False)
        self.assertIs(cuts(house, [("main", 0)], "oslo", 40, gate[3:]), True)
        self.assertIs(cuts(house, [("main", 0)], "oslo", 40, gate[4:]), False)
        self.assertIs(cuts(house, [("main", 0)], "oslo", 40, gate[3:39]), False)

    def test_forty_turns_in_a_house_at_the_bounds(self):
        house = house_at_the_bounds()
        places = all_places(house)
        for cart in house[1]:
            self.assertIs(cuts(house, places, cart, 40, []), False)
            self.assertIs(cuts(house, places, cart, 40, [(name, cell, 0) for name, cell in places]), True)
        # From end's cell 0 three turns lead to the cart, so it is left at moment 37 at the latest.
        ends = [("end", 0, moment) for moment in range(38)]
        self.assertEqual(places[27], ("end", 0))
        self.assertIs(cuts(house, places[:27], "lima", 40, ends[1:]), True)
        self.assertIs(cuts(house, places[:27], "lima", 40, ends[1:37]), False)
        self.assertIs(cuts(house, places[:28], "lima", 40, ends), True)
        self.assertIs(cuts(house, places[:28], "lima", 40, ends[1:]), False)
        self.assertIs(cuts(house, places[:29], "lima", 40, ends), False)

    def test_any_lists_of_small_houses(self):
        chance = random.Random(7)
        told = []
        for number, house in enumerate(small_houses(8, 150)):
            turns = chance.randint(0, 5)
            places = some_places(number, house, 3)
            spots = [(name, cell, moment) for name, cell in all_places(house) for moment in range(turns + 2)]
            cart = chance.choice(house[1])
            for count in range(0, len(spots), 2):
                cut = chance.choices(spots, k=count)
                told.append(cuts(house, places, cart, turns, cut))
                self.assertIs(told[-1], is_cut(house, places, cart, turns, cut))
        self.assertTrue(told.count(True) > 100 and told.count(False) > 100)


class Own(unittest.TestCase):
    """Promise 2: nothing handed in is changed, and nothing is kept."""

    def test_nothing_that_is_handed_in_is_changed(self):
        house = ordinary_house()
        places = [("main", 0), ("loop", 2)]
        cut = [("side", 0, 3), ("side", 0, 3), ("loop", 2, 0)]
        told = cells("main", 0, 0, 1, 2) + cells("side", 0) + ["oslo"]
        ways = [told, cells("loop", 2, 3) + ["paris"]]
        things = (house, places, cut, told, ways)
        before = copy.deepcopy(things)
        goes(house, ("main", 0), "oslo", told)
        self.assertEqual(things, before)
        goes(house, ("main", 1), "oslo", told)
        self.assertEqual(things, before)
        together(ways)
        together(ways + ways)
        self.assertEqual(things, before)
        cuts(house, places, "oslo", 9, cut)
        cuts(house, places, "oslo", 3, cut)
        self.assertEqual(things, before)

    def test_what_is_changed_later_is_looked_at_anew(self):
        house = line_house()
        told = cells("a", 0, 1, 2) + ["oslo"]
        cut = [("a", 1, 1)]
        self.assertIs(goes(house, ("a", 0), "oslo", told), True)
        self.assertIs(cuts(house, [("a", 0)], "oslo", 3, cut), True)
        told.append("oslo")
        cut.clear()
        self.assertIs(goes(house, ("a", 0), "oslo", told), False)
        self.assertIs(cuts(house, [("a", 0)], "oslo", 3, cut), False)
        house[0][0][3].remove("oslo")
        self.assertIs(cuts(house, [("a", 0)], "oslo", 3, cut), True)


if __name__ == "__main__":
    unittest.main()
