"""Promises 2, 9, 10 and 11: steps, far and a way, the arm's out."""

import copy
import itertools
import unittest

from carry.houses import right_house
from carry.ways import arm, far, steps, way
from plain import (all_places, house_at_the_bounds, meeting_houses, ordinary_house, plain_belt, plain_far,
                   plain_steps, small_houses)


def fork_house(outs, longs=(2, 2, 2)):
    """From main to the belts x, y and z, in the order of outs, and from these to oslo."""
    belts = [("main", 2, False, outs)]
    belts += [(name, long, False, ["oslo", "hand"]) for name, long in zip("xyz", longs)]
    return (belts, ["hand", "oslo", "paris"])


class PlainHouses(unittest.TestCase):
    def test_the_houses_to_try_fit(self):
        for house in [ordinary_house(), house_at_the_bounds(), *small_houses(1, 200), *meeting_houses(1, 200)]:
            self.assertIs(right_house(house), True)

    def test_the_house_at_the_bounds_is_there(self):
        belts, carts = house_at_the_bounds()
        self.assertEqual((len(belts), len(all_places((belts, carts))), len(carts)), (6, 30, 5))


class Steps(unittest.TestCase):
    def test_from_a_cell_that_is_not_the_last_one(self):
        house = ordinary_house()
        self.assertEqual(steps(house, ("main", 0)), [("main", 1)])
        self.assertEqual(steps(house, ("main", 1)), [("main", 2)])

    def test_from_a_rings_cells_that_are_not_the_last_one(self):
        house = ordinary_house()
        for cell in range(3):
            self.assertEqual(steps(house, ("loop", cell)), [("loop", cell + 1)])

    def test_from_the_last_one_the_outs(self):
        self.assertEqual(steps(ordinary_house(), ("main", 2)), [("loop", 0), ("side", 0)])

    def test_from_a_rings_last_one_its_own_cell_0_at_the_end(self):
        self.assertEqual(steps(ordinary_house(), ("loop", 3)), ["paris", ("side", 0), ("loop", 0)])

    def test_a_belt_of_one_cell(self):
        self.assertEqual(steps(ordinary_house(), ("side", 0)), ["oslo", "hand"])
        self.assertEqual(steps(([("a", 1, False, ["hand"])], ["hand"]), ("a", 0)), ["hand"])

    def test_a_ring_of_two_cells(self):
        house = ([("a", 2, True, ["hand"])], ["hand"])
        self.assertEqual(steps(house, ("a", 0)), [("a", 1)])
        self.assertEqual(steps(house, ("a", 1)), ["hand", ("a", 0)])

    def test_the_arms_order_whatever_the_houses_order(self):
        names = ["b", "c", "hand", "oslo"]
        told = {"b": ("b", 0), "c": ("c", 0), "hand": "hand", "oslo": "oslo"}
        for ring in (False, True):
            for outs in itertools.permutations(names):
                belts = [("a", 2, ring, list(outs)), ("b", 2, False, ["hand"]), ("c", 1, False, ["hand"])]
                asked = [told[out] for out in outs] + ([("a", 0)] if ring else [])
                self.assertEqual(steps((belts, ["hand", "oslo"]), ("a", 1)), asked)

    def test_kinds(self):
        told = steps(ordinary_house(), ("loop", 3))
        self.assertEqual([type(goal) for goal in told], [str, tuple, tuple])
        self.assertIs(type(told), list)

    def test_of_many_houses(self):
        for house in [house_at_the_bounds(), *small_houses(2, 60)]:
            for place in all_places(house):
                self.assertEqual(steps(house, place), plain_steps(house, place))
                self.assertNotIn(place, steps(house, place))


class FarCase(unittest.TestCase):
    def right(self, house, place, cart, turns):
        """Far is so many turns, and the way is one of so many."""
        self.assertEqual(far(house, place, cart), turns)
        told = way(house, place, cart)
        if turns is None:
            self.assertIsNone(far(house, place, cart))
            self.assertIsNone(told)
            return
        self.assertIs(type(told), list)
        self.assertEqual((told[0], told[-1]), (place[0], cart))
        for here, there in zip(told, told[1:]):
            self.assertIn(there, plain_belt(house, here)[3])
        cells = sum(plain_belt(house, name)[1] for name in told[:-1]) - place[1]
        self.assertEqual(cells, turns)


class Far(FarCase):
    def test_within_a_belt(self):
        house = ([("a", 5, False, ["hand"])], ["hand"])
        for cell in range(5):
            self.right(house, ("a", cell), "hand", 5 - cell)
            self.assertEqual(way(house, ("a", cell), "hand"), ["a", "hand"])

    def test_a_belt_of_one_cell(self):
        self.right(([("a", 1, False, ["hand"])], ["hand"]), ("a", 0), "hand", 1)

    def test_over_several_belts(self):
        house = ([("a", 2, False, ["b"]), ("b", 3, False, ["c"]), ("c", 1, False, ["hand"])], ["hand"])
        self.right(house, ("a", 0), "hand", 6)
        self.right(house, ("a", 1), "hand", 5)
        self.right(house, ("b", 2), "hand", 2)
        self.right(house, ("c", 0), "hand", 1)
        self.assertEqual(way(house, ("a", 1), "hand"), ["a", "b", "c", "hand"])

    def test_several_ways_of_unlike_length(self):
        for outs in itertools.permutations("xyz"):
            house = fork_house(list(outs), (4, 2, 3))
            self.right(house, ("main", 0), "oslo", 4)
            self.assertEqual(way(house, ("main", 0), "oslo"), ["main", "y", "oslo"])

    def test_more_belts_may_be_the_shorter_way(self):
        house = ([("a", 1, False, ["d", "b"]), ("b", 1, False, ["c"]), ("c", 1, False, ["hand"]),
                  ("d", 9, False, ["hand"])], ["hand"])
        self.right(house, ("a", 0), "hand", 3)
        self.assertEqual(way(house, ("a", 0), "hand"), ["a", "b", "c", "hand"])

    def test_several_ways_of_the_same_length(self):
        house = fork_house(["z", "x", "y"])
        self.right(house, ("main", 1), "oslo", 3)

    def test_rings(self):
        house = ordinary_house()
        for cell in range(4):
            self.right(house, ("loop", cell), "paris", 4 - cell)
            self.right(house, ("loop", cell), "oslo", 5 - cell)
            self.right(house, ("loop", cell), "hand", 5 - cell)

    def test_a_way_straight_and_one_through_a_ring(self):
        house = ordinary_house()
        self.right(house, ("main", 0), "oslo", 4)
        self.right(house, ("main", 2), "paris", 5)
        self.assertEqual(way(house, ("main", 0), "oslo"), ["main", "side", "oslo"])
        self.assertEqual(way(house, ("main", 2), "paris"), ["main", "loop", "paris"])

    def test_a_cart_that_can_never_be_come_to(self):
        house = ordinary_house()
        for place in all_places(house):
            self.right(house, place, "rome", None)
        self.right(house, ("side", 0), "paris", None)

    def test_a_way_that_is_no_least_one_has_the_cart_alone(self):
        house = ([("a", 1, False, ["b", "c"]), ("b", 1, False, ["hand"]), ("c", 5, False, ["hand", "oslo"])],
                 ["hand", "oslo"])
        self.right(house, ("a", 0), "oslo", 6)
        self.right(house, ("a", 0), "hand", 2)
        self.right(house, ("b", 0), "oslo", None)

    def test_long_belts(self):
        house = ([("a", 999999999, False, ["b"]), ("b", 999999999, True, ["hand"])], ["hand"])
        self.right(house, ("a", 0), "hand", 1999999998)
        self.right(house, ("a", 999999998), "hand", 1000000000)

    def test_of_many_houses(self):
        for house in [ordinary_house(), house_at_the_bounds(), *small_houses(3, 150)]:
            for place in all_places(house):
                for cart in house[1]:
                    self.right(house, place, cart, plain_far(house, place, cart))

    def test_somewhat_beyond_the_bounds(self):
        names = ["b" + letter for letter in "abcdefghijklmnopqrstuvwxyz"]
        belts = [(name, 9, k % 2 == 0, names[k + 1:k + 3] + ["hand"]) for k, name in enumerate(names)]
        belts[-1] = (names[-1], 9, False, ["hand", "oslo"])
        house = (belts, ["hand", "oslo"])
        self.right(house, ("ba", 0), "oslo", 9 * 14)


class Arm(unittest.TestCase):
    def test_the_least_far(self):
        for outs in itertools.permutations("xyz"):
            self.assertEqual(arm(fork_house(list(outs), (4, 2, 3)), "main", "oslo"), "y")
            self.assertEqual(arm(fork_house(list(outs), (1, 2, 3)), "main", "oslo"), "x")
            self.assertEqual(arm(fork_house(list(outs), (4, 9, 3)), "main", "oslo"), "z")

    def test_the_cart_itself_is_0_far(self):
        for outs in itertools.permutations(["x", "oslo", "hand"]):
            house = fork_house(list(outs), (1, 1, 1))
            self.assertEqual(arm(house, "main", "oslo"), "oslo")
            self.assertEqual(arm(house, "main", "hand"), "hand")

    def test_of_alike_ones_the_first_in_the_arms_order(self):
        for outs in itertools.permutations("xyz"):
            self.assertEqual(arm(fork_house(list(outs)), "main", "oslo"), outs[0])
        for outs in itertools.permutations("xyz"):
            first = [out for out in outs if out != "y"][0]
            self.assertEqual(arm(fork_house(list(outs), (2, 3, 2)), "main", "oslo"), first)

    def test_none_where_there_is_none(self):
        self.assertIsNone(arm(fork_house(["x", "y", "z"]), "main", "paris"))
        self.assertIsNone(arm(ordinary_house(), "side", "paris"))
        for belt in ("main", "loop", "side"):
            self.assertIsNone(arm(ordinary_house(), belt, "rome"))

    def test_outs_from_which_the_cart_can_not_be_come_to_are_none(self):
        house = ([("a", 1, False, ["b", "hand", "c"]), ("b", 1, False, ["hand"]), ("c", 9, False, ["hand", "oslo"])],
                 ["hand", "oslo"])
        self.assertEqual(arm(house, "a", "oslo"), "c")

    def test_a_ring(self):
        house = ordinary_house()
        self.assertEqual(arm(house, "loop", "paris"), "paris")
        self.assertEqual(arm(house, "loop", "oslo"), "side")
        self.assertEqual(arm(house, "main", "paris"), "loop")
        self.assertEqual(arm(house, "main", "oslo"), "side")

    def test_of_many_houses(self):
        for house in [house_at_the_bounds(), *small_houses(4, 150)]:
            for belt in house[0]:
                for cart in house[1]:
                    fars = [(out, 0 if out == cart else plain_far(house, (out, 0), cart))
                            for out in belt[3] if out == cart or out not in house[1]]
                    fars = [pair for pair in fars if pair[1] is not None]
                    asked = min(fars, key=lambda pair: pair[1])[0] if fars else None
                    self.assertEqual(arm(house, belt[0], cart), asked)


class Own(unittest.TestCase):
    """Promise 2: nothing handed in is changed, and what is told is the asker's own."""

    def test_asking_changes_no_house(self):
        for house in (ordinary_house(), house_at_the_bounds()):
            before = copy.deepcopy(house)
            for place in all_places(house):
                steps(house, place)
                for cart in house[1]:
                    far(house, place, cart)
                    way(house, place, cart)
                    arm(house, place[0], cart)
                self.assertEqual(house, before)

    def test_what_was_told_is_the_askers_own(self):
        house = ordinary_house()
        for ask in (
            lambda: steps(house, ("main", 0)), lambda: steps(house, ("loop", 3)), lambda: steps(house, ("side", 0)),
            lambda: way(house, ("main", 0), "oslo"), lambda: way(house, ("side", 0), "hand"),
        ):
            told = ask()
            kept = list(told)
            self.assertIsNot(told, ask())
            told.reverse()
            told.append("rome")
            self.assertEqual(ask(), kept)
            self.assertEqual(house, ordinary_house())

    def test_a_changed_house_changes_nothing_that_was_told_and_is_looked_at_anew(self):
        house = ordinary_house()
        goals = steps(house, ("side", 0))
        names = way(house, ("side", 0), "hand")
        house[0][2][3].reverse()
        self.assertEqual(steps(house, ("side", 0)), ["hand", "oslo"])
        house[0][2][3].clear()
        self.assertEqual((goals, names), (["oslo", "hand"], ["side", "hand"]))
        house[0][2] = ("side", 5, False, ["oslo", "hand"])
        self.assertEqual(far(house, ("side", 0), "hand"), 5)


if __name__ == "__main__":
    unittest.main()
