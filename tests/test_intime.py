"""Promises 2, 4 and 15: as many ways by turns as can be, and a cut of as many spots."""

import copy
import itertools
import random
import unittest

from carry.cuts import cuts, goes, together
from carry.intime import in_time
from plain import (all_places, apart, house_at_the_bounds, is_cut, meeting_houses, most_by_moments, most_by_ways,
                   ordinary_house, plain_far, plain_steps, small_houses, some_places)


class InTimeCase(unittest.TestCase):
    def told(self, house, places, cart, turns):
        """What in time tells, once it is looked at: the ways are right, and the cut shows there are no more."""
        before = copy.deepcopy((house, places))
        answer = in_time(house, places, cart, turns)
        self.assertEqual((house, places), before)
        self.assertIs(type(answer), tuple)
        self.assertEqual([type(part) for part in answer], [list, list])
        ways, cut = answer
        numbers = [k for k, told in ways]
        self.assertEqual(numbers, sorted(set(numbers)))
        self.assertTrue(all(k in range(len(places)) for k in numbers))
        for k, told in ways:
            self.right_way(house, places[k], cart, turns, told)
        self.assertIs(together([told for k, told in ways]), True)
        self.assertTrue(apart([told for k, told in ways]))
        self.right_cut(house, places, cart, turns, cut)
        self.assertEqual(len(cut), len(ways))
        return answer

    def right_way(self, house, place, cart, turns, told):
        self.assertIs(type(told), list)
        self.assertIn(len(told) - 1, range(1, turns + 1))
        self.assertEqual((told[0], told[-1]), (place, cart))
        for here, there in zip(told, told[1:]):
            self.assertIn(there, plain_steps(house, here) + [here])
        self.assertIs(goes(house, place, cart, told), True)

    def right_cut(self, house, places, cart, turns, cut):
        self.assertEqual(len(set(cut)), len(cut))
        for spot in cut:
            self.assertEqual([type(part) for part in spot], [str, int, int])
            self.assertIn(spot[:2], all_places(house))
            self.assertGreaterEqual(spot[2], 0)
        self.assertIs(cuts(house, places, cart, turns, cut), True)

    def count(self, house, places, cart, turns):
        return len(self.told(house, places, cart, turns)[0])


def line_house(long=4, ring=False):
    return ([("a", long, ring, ["hand", "oslo"])], ["hand", "oslo", "rome"])


class Nothing(InTimeCase):
    def test_no_places(self):
        for turns in (0, 1, 12):
            self.assertEqual(self.told(ordinary_house(), [], "oslo", turns), ([], []))

    def test_no_turns(self):
        self.assertEqual(self.told(line_house(), [("a", 3)], "oslo", 0), ([], []))
        self.assertEqual(self.told(ordinary_house(), all_places(ordinary_house()), "oslo", 0), ([], []))

    def test_a_cart_that_can_not_be_come_to(self):
        house = ordinary_house()
        for turns in (0, 1, 12):
            self.assertEqual(self.told(house, all_places(house), "rome", turns), ([], []))
        self.assertEqual(self.told(house, [("side", 0)], "paris", 12), ([], []))

    def test_too_few_turns(self):
        house = line_house()
        for cell in range(4):
            for turns in range(4 - cell):
                self.assertEqual(self.told(house, [("a", cell)], "oslo", turns), ([], []))
            self.assertEqual(self.count(house, [("a", cell)], "oslo", 4 - cell), 1)
        self.assertEqual(self.told(house, [("a", 0), ("a", 1), ("a", 2)], "oslo", 1), ([], []))


class Some(InTimeCase):
    def test_one_place_with_just_the_turns_it_needs(self):
        ways, cut = self.told(line_house(), [("a", 1)], "oslo", 3)
        self.assertEqual(ways, [(0, [("a", 1), ("a", 2), ("a", 3), "oslo"])])
        self.assertIn(cut, [[("a", 1, 0)], [("a", 2, 1)], [("a", 3, 2)]])

    def test_several_places_on_one_belt(self):
        house = line_house()
        for places in itertools.permutations(all_places(house)):
            for turns in range(7):
                told = self.told(house, list(places), "oslo", turns)
                asked = [k for k, place in enumerate(places) if 4 - place[1] <= turns]
                self.assertEqual([k for k, way in told[0]], asked)

    def test_a_place_that_is_not_in_the_list_is_as_if_it_were_empty(self):
        self.assertEqual(self.count(line_house(), [("a", 0), ("a", 3)], "oslo", 4), 2)

    def test_belts_that_meet(self):
        house = ([("a", 2, False, ["c"]), ("b", 2, False, ["c"]), ("c", 1, False, ["oslo", "hand"])],
                 ["hand", "oslo"])
        places = [("a", 0), ("a", 1), ("b", 0), ("b", 1)]
        for turns, count in enumerate((0, 0, 1, 2, 3, 4, 4, 4)):
            self.assertEqual(self.count(house, places, "oslo", turns), count)

    def test_more_places_than_can_be_there_in_time(self):
        house = ([(name, 1, False, ["gate"]) for name in "abcdefg"] + [("gate", 1, False, ["oslo", "hand"])],
                 ["hand", "oslo"])
        places = all_places(house)
        for turns in range(10):
            self.assertEqual(self.count(house, places, "oslo", turns), min(turns, 8))

    def test_two_ways_round_each_other(self):
        # Each of both can go over x in time, but only b can wait or go by y.
        house = ([("a", 1, False, ["x"]), ("b", 1, False, ["x", "y"]), ("x", 1, False, ["oslo", "hand"]),
                  ("y", 1, False, ["oslo", "hand"])], ["hand", "oslo"])
        for places in ([("a", 0), ("b", 0)], [("b", 0), ("a", 0)]):
            self.assertEqual(self.count(house, places, "oslo", 2), 2)
            self.assertEqual(self.count(house, places, "oslo", 1), 0)

    def test_a_bag_that_has_to_stand(self):
        house = ([("a", 1, False, ["c"]), ("b", 1, False, ["c"]), ("c", 3, False, ["oslo", "hand"])],
                 ["hand", "oslo"])
        self.assertEqual(self.count(house, [("a", 0), ("b", 0)], "oslo", 4), 1)
        ways = self.told(house, [("a", 0), ("b", 0)], "oslo", 5)[0]
        self.assertEqual(sorted(len(way) for k, way in ways), [5, 6])

    def test_a_ring(self):
        house = line_house(4, True)
        for turns in range(13):
            self.assertEqual(self.count(house, all_places(house), "oslo", turns), min(turns, 4))

    def test_a_ring_with_two_outs_and_belts_that_meet(self):
        house = ordinary_house()
        places = all_places(house)
        for turns, count in enumerate((0, 1, 2, 3, 4, 5, 6, 7, 8)):
            self.assertEqual(self.count(house, places, "oslo", turns), count)
        for turns, count in enumerate((0, 1, 2, 3, 4, 5, 6, 7, 7)):
            self.assertEqual(self.count(house, places, "paris", turns), count)

    def test_two_onto_the_cart_at_one_turn(self):
        house = ([("a", 1, False, ["oslo", "hand"]), ("b", 1, False, ["oslo", "hand"])], ["hand", "oslo"])
        ways, cut = self.told(house, [("b", 0), ("a", 0)], "oslo", 1)
        self.assertEqual(ways, [(0, [("b", 0), "oslo"]), (1, [("a", 0), "oslo"])])
        self.assertEqual(sorted(cut), [("a", 0, 0), ("b", 0, 0)])

    def test_the_hand_is_a_cart_like_others(self):
        self.assertEqual(self.count(ordinary_house(), all_places(ordinary_house()), "hand", 3), 3)

    def test_a_cart_whose_name_is_any(self):
        for name in ("start", "end", "into", "net", "out"):
            self.assertEqual(self.count(([("a", 2, False, [name])], [name]), [("a", 0), ("a", 1)], name, 2), 2)


def houses_to_try(seed, count, most):
    """Each with some of its places and one of its carts."""
    chance = random.Random(seed)
    for number, house in enumerate([*small_houses(seed, count), *meeting_houses(seed, count)]):
        yield (house, some_places(number, house, most), chance.choice(house[1]))


class Most(InTimeCase):
    def test_against_a_plain_search_over_all_ways(self):
        counts = []
        for house, places, cart in houses_to_try(9, 60, 4):
            for turns in range(6):
                ways, cut = self.told(house, places, cart, turns)
                counts.append(len(ways))
                self.assertEqual(len(ways), most_by_ways(house, places, cart, turns))
                self.assertTrue(is_cut(house, places, cart, turns, cut))
        self.assertEqual(set(counts), {0, 1, 2, 3, 4})

    def test_against_a_plain_search_moment_by_moment(self):
        fewer = 0
        for house, places, cart in houses_to_try(11, 60, 7):
            each = [plain_far(house, place, cart) for place in places]
            for turns in range(1, 8):
                count = self.count(house, places, cart, turns)
                self.assertEqual(count, most_by_moments(house, places, cart, turns))
                fewer += count < len([turn for turn in each if turn is not None and turn <= turns])
        # So that the search is about more than how far each place is by itself.
        self.assertGreater(fewer, 40)

    def test_never_more_ways_than_any_cut_has_spots(self):
        for house, places, cart in houses_to_try(13, 20, 4):
            for turns in range(4):
                count = self.count(house, places, cart, turns)
                spots = [(name, cell, moment) for name, cell in all_places(house) for moment in range(turns)]
                for fewer in range(min(count, 3)):
                    for cut in itertools.combinations(spots, fewer):
                        self.assertIs(cuts(house, places, cart, turns, list(cut)), False)

    def test_more_turns_are_never_fewer_ways(self):
        for house, places, cart in houses_to_try(15, 30, 8):
            counts = [self.count(house, places, cart, turns) for turns in range(13)]
            self.assertEqual(counts, sorted(counts))


class Bounds(InTimeCase):
    def test_eight_places_and_twelve_turns_in_a_house_at_the_bounds(self):
        house = house_at_the_bounds()
        for number in range(6):
            places = random.Random(number).sample(all_places(house), 8)
            for cart in house[1]:
                for turns in range(13):
                    self.told(house, places, cart, turns)

    def test_the_first_and_the_last_eight_places(self):
        house = house_at_the_bounds()
        places = all_places(house)
        for some in (places[:8], places[-8:], places[8:16]):
            for cart in house[1]:
                self.told(house, some, cart, 12)

    def test_one_long_belt(self):
        house = line_house(30)
        for turns in range(13):
            self.assertEqual(self.count(house, all_places(house)[-8:], "oslo", turns), min(turns, 8))
            self.assertEqual(self.count(house, all_places(house)[:8], "oslo", turns), 0)

    def test_somewhat_beyond_the_bounds(self):
        house = house_at_the_bounds()
        places = all_places(house)
        counts = [self.count(house, places, "lima", turns) for turns in (12, 20, 40)]
        self.assertEqual(counts, [12, 20, 30])


class Own(InTimeCase):
    """Promise 2: nothing handed in is changed, and what is told is the asker's own."""

    def test_what_was_told_is_the_askers_own(self):
        house = ordinary_house()
        places = [("main", 0), ("loop", 3)]
        ways, cut = self.told(house, places, "oslo", 5)
        for k, told in ways:
            told.clear()
        ways.clear()
        cut.append(("main", 0, 0))
        self.assertEqual((house, places), (ordinary_house(), [("main", 0), ("loop", 3)]))
        self.assertEqual(self.count(house, places, "oslo", 5), 2)

    def test_what_is_handed_in_may_be_changed_later(self):
        house = ordinary_house()
        places = [("main", 0), ("loop", 3)]
        answer = self.told(house, places, "oslo", 5)
        kept = copy.deepcopy(answer)
        places.clear()
        house[0][2][3].clear()
        house[0].pop()
        self.assertEqual(answer, kept)
        self.assertEqual(in_time(house, places, "oslo", 5), ([], []))


if __name__ == "__main__":
    unittest.main()
