"""Promises 1 and 4: the whole, over many runs of deeds and turns."""

import random
import unittest

from carry.cuts import cuts
from carry.errors import CarryError
from carry.halls import Hall
from carry.intime import in_time
from carry.soonest import soonest
from carry.turns import turn
from plain import (all_places, house_at_the_bounds, meeting_houses, ordinary_house, plain_far, plain_steps,
                   small_houses, some_halls)


def do(hall, deed, handed):
    """Whether it was done."""
    try:
        getattr(hall, deed)(*handed)
    except CarryError:
        return False
    return True


def filled(seed, house, most):
    """A hall with some bags in the midst of a house, of which most have flights to one cart."""
    chance = random.Random(seed)
    hall = Hall(house, chance.randint(0, 2))
    cart = chance.choice(house[1][1:]) if house[1][1:] else None
    if cart:
        hall.flight("f", cart, 10 ** 6)
    names = iter([one + other for one in "abcdefgh" for other in "abcdefgh"])
    for k in range(6):
        for belt in house[0]:
            if len(hall.bags()) < most and chance.random() < 0.5:
                do(hall, "put", (next(names), "f" if cart and chance.random() < 0.8 else None, belt[0]))
        if chance.random() < 0.7:
            turn(hall)
    return hall


class Places(unittest.TestCase):
    def test_each_bag_is_at_just_one_place(self):
        for house, rounds, deeds in some_halls(61, 50):
            hall, names = Hall(house, rounds), []
            for deed, *handed in deeds:
                if deed == "turn":
                    turn(hall)
                elif do(hall, deed, handed) and deed == "put":
                    names.append(handed[0])
                inside = [(bag, place) for bag, flight, place, gone in hall.bags()]
                out = [(bag, cart) for bag, cart, moment in hall.out()]
                self.assertEqual(sorted(bag for bag, there in inside + out), sorted(names))
                for bag, there in inside + out:
                    self.assertEqual(hall.where(bag), there)
                places = [place for bag, place in inside]
                self.assertEqual(len(set(places)), len(places))
                self.assertTrue(all(place in all_places(house) for place in places))
                self.assertTrue(all(cart in house[1] for bag, cart in out))

    def test_a_bag_goes_where_one_may_go_or_stands_and_it_is_told_why(self):
        stood = 0
        for house, rounds, deeds in some_halls(62, 30):
            hall = Hall(house, rounds)
            for deed, *handed in deeds:
                if deed != "turn":
                    do(hall, deed, handed)
                    continue
                for bag, was, now, why in turn(hall):
                    self.assertEqual(now == was, why is not None)
                    stood += why is not None
                    if why is None:
                        self.assertIn(now, plain_steps(house, was))
        self.assertGreater(stood, 100)


class InTime(unittest.TestCase):
    def test_who_is_out_is_on_its_flights_cart_by_the_closing_moment_or_on_the_hand(self):
        ends = {"in time": 0, "late": 0, "no flight": 0}
        for house, rounds, deeds in some_halls(63, 60):
            hall = Hall(house, rounds)
            for deed, *handed in deeds:
                if deed != "turn":
                    do(hall, deed, handed)
                    continue
                flights = {name: (cart, closing) for name, cart, closing in hall.flights()}
                bags = {bag: flight for bag, flight, place, gone in hall.bags()}
                for bag, was, now, why in turn(hall):
                    if isinstance(now, str):
                        ends[self.end(house, flights.get(bags[bag]), now, hall.moment())] += 1
        self.assertTrue(all(count > 50 for count in ends.values()), ends)

    def end(self, house, flight, cart, moment):
        if flight is None:
            self.assertEqual(cart, house[1][0])
            return "no flight"
        if cart == flight[0]:
            self.assertLessEqual(moment, flight[1])
            return "in time"
        self.assertEqual(cart, house[1][0])
        return "late"

    def test_while_the_least_way_is_in_time_it_goes_there_else_it_is_late(self):
        for house, rounds, deeds in some_halls(64, 30):
            hall = Hall(house, rounds)
            for deed, *handed in deeds:
                if deed == "turn":
                    turn(hall)
                else:
                    do(hall, deed, handed)
                flights = {name: (cart, closing) for name, cart, closing in hall.flights()}
                late = []
                for bag, flight, place, gone in hall.bags():
                    cart, closing = flights.get(flight, (house[1][0], 0))
                    least = plain_far(house, place, cart)
                    if flight and (least is None or hall.moment() + least > closing):
                        late.append(bag)
                        cart = house[1][0]
                    self.assertEqual(hall.cart_of(bag), cart)
                self.assertEqual(hall.late(), late)

    def test_one_alone_that_is_in_time_is_never_late(self):
        for house in [ordinary_house(), house_at_the_bounds(), *small_houses(65, 40)]:
            for cart in house[1][1:]:
                for belt in house[0]:
                    least = plain_far(house, (belt[0], 0), cart)
                    if least is not None:
                        hall = Hall(house, 3)
                        hall.flight("f", cart, least)
                        hall.put("a", "f", belt[0])
                        for k in range(least):
                            self.assertEqual(hall.late(), [])
                            turn(hall)
                        self.assertEqual(hall.out(), [("a", cart, least)])


class Moving(unittest.TestCase):
    def test_while_no_belt_is_stopped_some_bag_moves_and_all_come_out(self):
        for house, rounds, deeds in some_halls(66, 50):
            hall = Hall(house, rounds)
            for deed, *handed in deeds:
                if deed == "turn":
                    bags, free = hall.bags(), not hall.stopped()
                    log = turn(hall)
                    if bags and free:
                        self.assertIn(None, [why for bag, was, now, why in log])
                else:
                    do(hall, deed, handed)
            self.drained(hall)

    def drained(self, hall):
        """All come out, once every belt goes and no more are put in."""
        for belt in hall.stopped():
            hall.start(belt)
        most = len(hall.bags()) * 200 + 200
        for k in range(most):
            if not hall.bags():
                break
            self.assertIn(None, [why for bag, was, now, why in turn(hall)])
        self.assertEqual(hall.bags(), [])

    def test_houses_that_are_full_of_bags(self):
        houses = [ordinary_house(), house_at_the_bounds(), *small_houses(67, 60), *meeting_houses(67, 60)]
        for number, house in enumerate(houses):
            hall = Hall(house, number % 4)
            if house[1][1:]:
                hall.flight("f", house[1][-1], number % 30)
            names = iter([one + other for one in "abcdefgh" for other in "abcdefgh"])
            # Each cell is filled, belt by belt from its end on.
            for belt, long, ring, outs in house[0]:
                for cell in reversed(range(long)):
                    bag = next(names)
                    hall.put(bag, "f" if hall.flights() and number % 3 else None, belt)
                    hall.move([(bag, (belt, cell))] if cell else [])
            self.assertEqual(len(hall.bags()), len(all_places(house)))
            self.drained(hall)


class NeverBeyond(unittest.TestCase):
    def runs(self, seed, count):
        for number, house in enumerate([*small_houses(seed, count, 4), *meeting_houses(seed, count),
                                        *[house_at_the_bounds()] * 8, *[ordinary_house()] * 8]):
            yield (house, filled(number, house, 8))

    def test_no_more_on_a_cart_than_in_time_tells(self):
        met = 0
        for house, hall in self.runs(68, 40):
            places = {bag: place for bag, flight, place, gone in hall.bags()}
            begin = hall.moment()
            for turns in range(13):
                for cart in house[1]:
                    there = [bag for bag, on, moment in hall.out() if bag in places and on == cart]
                    most = len(in_time(house, list(places.values()), cart, turns)[0])
                    self.assertLessEqual(len(there), most)
                    met += 0 < len(there) == most
                self.assertEqual(hall.moment(), begin + turns)
                turn(hall)
        self.assertGreater(met, 100)

    def test_who_comes_onto_a_cart_was_at_one_of_the_cuts_spots(self):
        for house, hall in self.runs(69, 30):
            spots = {bag: [place + (0,)] for bag, flight, place, gone in hall.bags()}
            places = [place for bag, flight, place, gone in hall.bags()]
            for turns in range(1, 13):
                there = []
                for bag, was, now, why in turn(hall):
                    if isinstance(now, str):
                        there.append((bag, now))
                    else:
                        spots[bag].append(now + (turns,))
                for bag, cart in there:
                    for limit in range(turns, 13):
                        cut = in_time(house, places, cart, limit)[1]
                        self.assertIs(cuts(house, places, cart, limit, cut), True)
                        self.assertTrue(any(spot in cut for spot in spots[bag]))

    def test_never_all_of_them_sooner_than_the_soonest_tells(self):
        met = 0
        for house, hall in self.runs(70, 40):
            places = {bag: place for bag, flight, place, gone in hall.bags()}
            begin, before = hall.moment(), len(hall.out())
            while hall.bags():
                turn(hall)
            for cart in house[1]:
                there = [(bag, moment) for bag, on, moment in hall.out()[before:] if on == cart]
                if there:
                    least = soonest(house, [places[bag] for bag, moment in there], cart)[0]
                    self.assertGreaterEqual(there[-1][1] - begin, least)
                    met += there[-1][1] - begin == least
        self.assertGreater(met, 40)


if __name__ == "__main__":
    unittest.main()
