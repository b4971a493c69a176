"""Promises 2, 3, 18 to 21 and 25: a hall, its flights, bags and belts, and what it tells."""

import copy
import unittest

from carry import errors
from carry.errors import (CarryError, NoBag, NoBelt, NoFlight, NoHand, NoMoment, NoName, NoOut, NoRoom, NoSize)
from carry.halls import Hall
from carry.turns import turn
from plain import PlainHall, all_places, house_at_the_bounds, ordinary_house, plain_far, some_halls, told_by

NO_NAMES = ["", "A", "a1", "a b", "abcdefghi", "a\n", " a", "\u00e4", "none!"]


class HallCase(unittest.TestCase):
    def refuses(self, kind, hall, deed, *handed):
        """That very class, and the hall is as it was."""
        before = told_by(hall)
        with self.assertRaises(CarryError) as caught:
            getattr(hall, deed)(*handed)
        self.assertIs(type(caught.exception), kind, (deed, handed))
        self.assertEqual(told_by(hall), before)

    def does(self, hall, deed, *handed):
        self.assertIsNone(getattr(hall, deed)(*handed))

    def hall(self, rounds=1, house=None):
        """Main (3) to loop and side; loop, a ring (4), to paris and side; side (1) to oslo and hand."""
        hall = Hall(house or ordinary_house(), rounds)
        for cart in hall.house()[1][1:]:
            hall.flight("to" + cart, cart, 100)
        return hall


class NewHall(HallCase):
    def test_at_first(self):
        for house in (ordinary_house(), house_at_the_bounds(), ([], ["hand"])):
            for rounds in (0, 1, 7, 999999999):
                hall = Hall(house, rounds)
                self.assertEqual(hall.moment(), 0)
                self.assertIs(type(hall.moment()), int)
                for told in (hall.flights(), hall.stopped(), hall.bags(), hall.out(), hall.late()):
                    self.assertEqual(told, [])
                    self.assertIs(type(told), list)
                self.assertEqual(hall.house(), house)
                self.assertEqual(hall.rounds(), rounds)

    def test_no_bag_is_anywhere(self):
        hall = Hall(ordinary_house(), 1)
        for name in ("a", "main", "hand", "", "A"):
            self.refuses(NoBag, hall, "where", name)
            self.refuses(NoBag, hall, "cart_of", name)

    def test_a_house_that_does_not_fit_is_refused(self):
        line = ("a", 2, False, ["hand"])
        for kind, house in (
            (NoName, ([line], ["hand", "A"])),
            (NoName, ([line, line], ["hand"])),
            (NoHand, ([line], [])),
            (NoName, ([("hand", 2, False, ["hand"])], ["hand"])),
            (NoSize, ([("a", 0, False, ["hand"])], ["hand"])),
            (NoSize, ([("a", 1, True, ["hand"])], ["hand"])),
            (NoOut, ([("a", 2, False, [])], ["hand"])),
            (NoOut, ([("a", 2, False, ["a", "hand"])], ["hand"])),
            (NoHand, ([("a", 2, False, ["oslo"])], ["hand", "oslo"])),
            # Several at once: the first one that is met.
            (NoName, ([("a", 0, False, [])], ["hand", 7])),
            (NoSize, ([("a", 0, False, []), ("a", 1, False, [])], ["hand"])),
            (NoName, ([("a", 1, False, []), ("a", 0, False, [])], ["hand"])),
        ):
            before = copy.deepcopy(house)
            with self.assertRaises(CarryError) as caught:
                Hall(house, 1)
            self.assertIs(type(caught.exception), kind, house)
            self.assertEqual(house, before)

    def test_halls_side_by_side(self):
        house = ordinary_house()
        one, other = Hall(house, 1), Hall(house, 1)
        new = told_by(other)
        one.flight("f", "oslo", 9)
        one.put("a", "f", "main")
        one.stop("side")
        turn(one)
        self.assertEqual(told_by(other), new)
        other.put("a", None, "loop")
        self.assertEqual((one.where("a"), other.where("a")), (("main", 1), ("loop", 0)))
        self.assertEqual((one.stopped(), other.stopped()), (["side"], []))


class Own(HallCase):
    """Promise 2: what was handed in or told, changed afterwards, changes nothing."""

    def test_the_house_that_was_handed_in(self):
        house = ordinary_house()
        hall = Hall(house, 1)
        house[0][0][3].clear()
        house[0][2] = ("side", 7, False, ["hand"])
        house[1].append("lima")
        self.assertEqual(hall.house(), ordinary_house())
        hall.put("a", None, "main")
        for k in range(4):
            turn(hall)
        self.assertEqual(hall.where("a"), "hand")
        self.refuses(NoOut, hall, "flight", "f", "lima", 1)

    def test_the_house_that_was_told(self):
        hall = Hall(ordinary_house(), 1)
        told = hall.house()
        told[0][0][3].clear()
        told[0].clear()
        told[1].clear()
        self.assertEqual(hall.house(), ordinary_house())
        hall.put("a", None, "main")
        self.assertEqual(hall.cart_of("a"), "hand")

    def test_the_house_that_was_handed_in_is_not_changed(self):
        house = ordinary_house()
        hall = Hall(house, 1)
        hall.put("a", None, "main")
        hall.stop("loop")
        turn(hall)
        self.assertEqual(house, ordinary_house())

    def busy(self):
        hall = self.hall()
        hall.put("late", "torome", "side")
        hall.put("a", "tooslo", "main")
        turn(hall)
        hall.put("b", "torome", "main")
        hall.put("c", None, "side")
        hall.stop("loop")
        return hall

    def test_the_lists_that_were_told(self):
        for ask in ("flights", "stopped", "bags", "out", "late"):
            hall = self.busy()
            before = told_by(hall)
            told = getattr(hall, ask)()
            self.assertNotEqual(told, [])
            told.clear()
            self.assertEqual(told_by(hall), before)
            getattr(hall, ask)().append("more")
            self.assertEqual(told_by(hall), before)

    def test_nothing_done_later_changes_what_was_told(self):
        hall = self.busy()
        told = told_by(hall)
        kept = copy.deepcopy(told)
        hall.flight("f", "oslo", 4)
        hall.change("tooslo", 3)
        hall.call_off("torome")
        hall.read("c", "f")
        hall.start("loop")
        hall.stop("main")
        hall.stop("side")
        for k in range(9):
            turn(hall)
        self.assertEqual(told, kept)
        self.assertNotEqual(told_by(hall), kept)

    def test_asking_changes_nothing(self):
        hall = self.busy()
        self.assertEqual(told_by(hall), told_by(hall))

    def test_kinds_of_what_is_told(self):
        hall = self.busy()
        for told in hall.flights():
            self.assertEqual([type(told)] + [type(part) for part in told], [tuple, str, str, int])
        for bag, flight, place, rounds in hall.bags():
            self.assertEqual([type(part) for part in (bag, place, rounds)], [str, tuple, int])
            self.assertEqual([type(part) for part in place], [str, int])
            self.assertTrue(flight is None or type(flight) is str)
        for told in hall.out():
            self.assertEqual([type(told)] + [type(part) for part in told], [tuple, str, str, int])
        self.assertEqual([type(told) for told in hall.late() + hall.stopped()], [str, str])


class Flights(HallCase):
    def test_told_sorted_by_names(self):
        hall = Hall(ordinary_house(), 1)
        for name, cart, closing in (("m", "oslo", 5), ("ab", "paris", 0), ("z", "rome", 999999999), ("a", "oslo", 5)):
            self.does(hall, "flight", name, cart, closing)
        self.assertEqual(hall.flights(),
                         [("a", "oslo", 5), ("ab", "paris", 0), ("m", "oslo", 5), ("z", "rome", 999999999)])

    def test_no_name(self):
        hall = self.hall()
        for name in NO_NAMES + [None, 7, True, ["a"], ("a",)]:
            self.refuses(NoName, hall, "flight", name, "oslo", 5)
        self.refuses(NoName, hall, "flight", "tooslo", "paris", 7)
        self.does(hall, "flight", "abcdefgh", "oslo", 5)

    def test_flights_may_be_called_like_belts_carts_and_bags(self):
        hall = self.hall()
        hall.put("a", None, "main")
        for name in ("main", "oslo", "hand", "a", "none"):
            self.does(hall, "flight", name, "oslo", 5)

    def test_no_out(self):
        hall = self.hall()
        for cart in ("hand", "main", "side", "lima", "", "Oslo", None):
            self.refuses(NoOut, hall, "flight", "f", cart, 5)

    def test_no_moment(self):
        hall = self.hall()
        for closing in (-1, -999999999):
            self.refuses(NoMoment, hall, "flight", "f", "oslo", closing)
        self.does(hall, "flight", "f", "oslo", 0)

    def test_a_closing_moment_that_is_past_is_none_to_refuse(self):
        hall = self.hall()
        for k in range(5):
            turn(hall)
        self.does(hall, "flight", "f", "oslo", 0)
        self.does(hall, "change", "f", 1)
        self.assertIn(("f", "oslo", 1), hall.flights())

    def test_in_the_told_order(self):
        hall = self.hall()
        self.refuses(NoName, hall, "flight", "", "hand", -1)
        self.refuses(NoName, hall, "flight", "tooslo", "hand", -1)
        self.refuses(NoName, hall, "flight", "A", "oslo", -1)
        self.refuses(NoOut, hall, "flight", "f", "hand", -1)
        self.refuses(NoOut, hall, "flight", "f", "lima", -1)

    def test_changed(self):
        hall = self.hall()
        self.does(hall, "change", "tooslo", 3)
        self.assertEqual(hall.flights(), [("tooslo", "oslo", 3), ("toparis", "paris", 100), ("torome", "rome", 100)])
        self.does(hall, "change", "tooslo", 0)
        self.does(hall, "change", "tooslo", 0)
        self.assertEqual(hall.flights()[0], ("tooslo", "oslo", 0))

    def test_changed_and_refused(self):
        hall = self.hall()
        for name in NO_NAMES + ["f", "oslo", None, ["f"]]:
            self.refuses(NoFlight, hall, "change", name, 3)
            self.refuses(NoFlight, hall, "change", name, -1)
        self.refuses(NoMoment, hall, "change", "tooslo", -1)

    def test_called_off(self):
        hall = self.hall()
        self.does(hall, "call_off", "toparis")
        self.assertEqual(hall.flights(), [("tooslo", "oslo", 100), ("torome", "rome", 100)])
        self.refuses(NoFlight, hall, "call_off", "toparis")
        self.refuses(NoFlight, hall, "change", "toparis", 5)
        self.refuses(NoFlight, hall, "change", "toparis", -5)
        self.refuses(NoFlight, hall, "put", "a", "toparis", "main")
        for name in NO_NAMES + ["f", "paris", None, ["f"]]:
            self.refuses(NoFlight, hall, "call_off", name)

    def test_called_off_and_told_anew(self):
        hall = self.hall()
        hall.put("a", "tooslo", "main")
        hall.put("b", "toparis", "side")
        hall.call_off("tooslo")
        self.assertEqual([told[1] for told in hall.bags()], [None, "toparis"])
        self.does(hall, "flight", "tooslo", "oslo", 100)
        self.assertEqual([told[1] for told in hall.bags()], [None, "toparis"])
        self.assertEqual((hall.cart_of("a"), hall.late()), ("hand", ["b"]))
        self.does(hall, "read", "a", "tooslo")
        self.assertEqual([told[1] for told in hall.bags()], ["tooslo", "toparis"])
        self.assertEqual(hall.cart_of("a"), "oslo")

    def test_its_name_told_anew_with_another_cart(self):
        hall = self.hall()
        hall.call_off("tooslo")
        self.does(hall, "flight", "tooslo", "paris", 4)
        self.assertIn(("tooslo", "paris", 4), hall.flights())

    def test_called_off_where_none_told_so_is_told_anew(self):
        hall = self.hall()
        hall.put("a", "tooslo", "main")
        hall.call_off("tooslo")
        hall.flight("tooslo", "oslo", 9)
        hall.call_off("tooslo")
        hall.flight("tooslo", "oslo", 9)
        self.assertIsNone(hall.bags()[0][1])


class Bags(HallCase):
    def test_put_in(self):
        hall = self.hall()
        self.does(hall, "put", "b", "tooslo", "side")
        self.does(hall, "put", "a", None, "loop")
        self.does(hall, "put", "c", "torome", "main")
        self.assertEqual(hall.bags(), [("c", "torome", ("main", 0), 0), ("a", None, ("loop", 0), 0),
                                       ("b", "tooslo", ("side", 0), 0)])
        self.assertEqual([hall.where(bag) for bag in "abc"], [("loop", 0), ("side", 0), ("main", 0)])
        self.assertEqual((hall.moment(), hall.out()), (0, []))

    def test_no_name(self):
        hall = self.hall()
        hall.put("a", None, "main")
        for name in NO_NAMES + ["a", None, 7, True, ["b"], ("b",)]:
            self.refuses(NoName, hall, "put", name, None, "loop")
        self.does(hall, "put", "abcdefgh", None, "loop")

    def test_a_name_that_was_used_before(self):
        hall = self.hall()
        hall.put("a", None, "side")
        turn(hall)
        self.assertEqual(hall.out(), [("a", "hand", 1)])
        self.refuses(NoName, hall, "put", "a", None, "side")
        self.does(hall, "put", "b", None, "side")

    def test_bags_may_be_called_like_belts_carts_and_flights(self):
        hall = self.hall()
        for name, belt in (("main", "side"), ("oslo", "loop"), ("tooslo", "main")):
            self.does(hall, "put", name, None, belt)

    def test_no_flight(self):
        hall = self.hall()
        for flight in NO_NAMES + ["f", "oslo", "none", ["tooslo"]]:
            self.refuses(NoFlight, hall, "put", "a", flight, "main")

    def test_no_belt(self):
        hall = self.hall()
        for belt in ("", "oslo", "hand", "Main", "mains", None, ["main"]):
            self.refuses(NoBelt, hall, "put", "a", None, belt)
            self.refuses(NoBelt, hall, "put", "a", "tooslo", belt)

    def test_no_room(self):
        hall = self.hall()
        hall.put("a", None, "main")
        self.refuses(NoRoom, hall, "put", "b", None, "main")
        turn(hall)
        self.does(hall, "put", "b", None, "main")
        self.assertEqual([hall.where(bag) for bag in "ab"], [("main", 1), ("main", 0)])

    def test_room_only_hangs_on_cell_0(self):
        hall = self.hall(9)
        hall.put("a", None, "loop")
        for k in range(3):
            turn(hall)
            hall.put("abcd"[k + 1], None, "loop")
        self.refuses(NoRoom, hall, "put", "e", None, "loop")
        turn(hall)
        self.assertEqual([told[2] for told in hall.bags()], [("loop", cell) for cell in range(4)])
        self.refuses(NoRoom, hall, "put", "e", None, "loop")

    def test_on_a_stopped_belt_too(self):
        hall = self.hall()
        hall.stop("main")
        self.does(hall, "put", "a", "tooslo", "main")
        self.assertEqual(hall.where("a"), ("main", 0))
        self.refuses(NoRoom, hall, "put", "b", "tooslo", "main")

    def test_in_the_told_order(self):
        hall = self.hall()
        hall.put("a", None, "main")
        for belt in ("nowhere", "main", "loop"):
            for flight in ("noflight", "tooslo", None):
                self.refuses(NoName, hall, "put", "a", flight, belt)
                self.refuses(NoName, hall, "put", "B", flight, belt)
            self.refuses(NoFlight, hall, "put", "b", "noflight", belt)
        self.refuses(NoBelt, hall, "put", "b", "tooslo", "nowhere")
        self.refuses(NoBelt, hall, "put", "b", None, "nowhere")
        self.refuses(NoRoom, hall, "put", "b", "tooslo", "main")

    def test_refused_its_name_is_still_free(self):
        hall = self.hall()
        self.refuses(NoBelt, hall, "put", "a", None, "nowhere")
        self.does(hall, "put", "a", None, "main")

    def test_forty_in_all(self):
        hall = Hall(ordinary_house(), 0)
        names = [one + other for one in "abcdefgh" for other in "vwxyz"]
        for bag in names:
            self.does(hall, "put", bag, None, "side")
            turn(hall)
        self.assertEqual(hall.out(), [(bag, "hand", k + 1) for k, bag in enumerate(names)])
        for bag in names:
            self.refuses(NoName, hall, "put", bag, None, "side")


class Reading(HallCase):
    def test_read(self):
        hall = self.hall()
        hall.put("a", None, "main")
        hall.put("b", "torome", "side")
        self.does(hall, "read", "a", "tooslo")
        self.does(hall, "read", "b", "toparis")
        self.assertEqual([told[1] for told in hall.bags()], ["tooslo", "toparis"])
        self.does(hall, "read", "b", "toparis")
        self.assertEqual([told[1] for told in hall.bags()], ["tooslo", "toparis"])

    def test_its_rounds_stay(self):
        hall = self.hall(9)
        hall.put("a", None, "loop")
        for k in range(9):
            turn(hall)
        hall.read("a", "toparis")
        self.assertEqual(hall.bags(), [("a", "toparis", ("loop", 1), 2)])

    def test_refused(self):
        hall = self.hall()
        hall.put("a", None, "main")
        hall.put("c", None, "side")
        turn(hall)
        for bag in NO_NAMES + ["b", "c", "main", None, ["a"]]:
            self.refuses(NoBag, hall, "read", bag, "tooslo")
            self.refuses(NoBag, hall, "read", bag, "noflight")
        for flight in NO_NAMES + ["f", "oslo", None]:
            self.refuses(NoFlight, hall, "read", "a", flight)

    def test_a_flight_that_was_called_off(self):
        hall = self.hall()
        hall.put("a", "torome", "main")
        hall.call_off("tooslo")
        self.refuses(NoFlight, hall, "read", "a", "tooslo")
        self.assertEqual(hall.bags()[0][1], "torome")


class Belts(HallCase):
    def test_stopped_and_started_in_the_houses_order(self):
        hall = self.hall()
        for belt, stopped in (("side", ["side"]), ("main", ["main", "side"]), ("loop", ["main", "loop", "side"])):
            self.does(hall, "stop", belt)
            self.assertEqual(hall.stopped(), stopped)
        for belt, stopped in (("main", ["loop", "side"]), ("side", ["loop"]), ("loop", [])):
            self.does(hall, "start", belt)
            self.assertEqual(hall.stopped(), stopped)

    def test_what_is_so_already_stays_so(self):
        hall = self.hall()
        self.does(hall, "start", "main")
        self.assertEqual(hall.stopped(), [])
        self.does(hall, "stop", "main")
        self.does(hall, "stop", "main")
        self.assertEqual(hall.stopped(), ["main"])
        self.does(hall, "start", "main")
        self.assertEqual(hall.stopped(), [])

    def test_no_belt(self):
        hall = self.hall()
        hall.stop("main")
        for belt in ("", "oslo", "hand", "Main", "a", None, ["main"]):
            self.refuses(NoBelt, hall, "stop", belt)
            self.refuses(NoBelt, hall, "start", belt)


class Carts(HallCase):
    def test_at_the_very_closing_moment(self):
        # From main's cell 0 oslo is 4 turns, paris 7 turns away.
        for cart, least in (("oslo", 4), ("paris", 7)):
            hall = Hall(ordinary_house(), 1)
            hall.flight("f", cart, least)
            hall.flight("g", cart, least - 1)
            hall.put("a", "f", "main")
            self.assertEqual((hall.cart_of("a"), hall.late()), (cart, []))
            hall.read("a", "g")
            self.assertEqual((hall.cart_of("a"), hall.late()), ("hand", ["a"]))

    def test_later_moments_count(self):
        hall = self.hall()
        for k in range(3):
            turn(hall)
        hall.put("a", "tooslo", "main")
        for closing, cart in ((6, "hand"), (7, "oslo"), (8, "oslo"), (4, "hand"), (0, "hand")):
            hall.change("tooslo", closing)
            self.assertEqual(hall.cart_of("a"), cart)
            self.assertEqual(hall.late(), ["a"] if cart == "hand" else [])

    def test_one_that_is_in_time_goes_there_on_the_last_moment(self):
        hall = Hall(ordinary_house(), 1)
        hall.flight("f", "paris", 7)
        hall.put("a", "f", "main")
        for moment in range(7):
            self.assertEqual((hall.moment(), hall.cart_of("a"), hall.late()), (moment, "paris", []))
            turn(hall)
        self.assertEqual(hall.out(), [("a", "paris", 7)])

    def test_one_that_stood_is_late(self):
        hall = Hall(ordinary_house(), 1)
        hall.flight("f", "paris", 7)
        hall.put("a", "f", "main")
        hall.stop("main")
        turn(hall)
        self.assertEqual((hall.cart_of("a"), hall.late()), ("hand", ["a"]))
        hall.change("f", 8)
        self.assertEqual((hall.cart_of("a"), hall.late()), ("paris", []))

    def test_a_cart_that_can_not_be_come_to(self):
        hall = self.hall()
        hall.put("a", "torome", "main")
        hall.put("b", "toparis", "side")
        self.assertEqual((hall.cart_of("a"), hall.cart_of("b"), hall.late()), ("hand", "hand", ["a", "b"]))

    def test_without_a_reading_it_is_not_late(self):
        hall = self.hall()
        hall.put("a", None, "main")
        self.assertEqual((hall.cart_of("a"), hall.late()), ("hand", []))
        hall.read("a", "tooslo")
        self.assertEqual((hall.cart_of("a"), hall.late()), ("oslo", []))

    def test_a_flight_that_is_called_off(self):
        hall = self.hall()
        hall.put("a", "tooslo", "main")
        hall.put("b", "torome", "loop")
        self.assertEqual(hall.late(), ["b"])
        hall.call_off("tooslo")
        hall.call_off("torome")
        self.assertEqual((hall.cart_of("a"), hall.cart_of("b"), hall.late()), ("hand", "hand", []))

    def test_of_all_places_and_moments(self):
        house = house_at_the_bounds()
        for cart in house[1][1:]:
            for name, cell in all_places(house):
                least = plain_far(house, (name, cell), cart)
                hall = Hall(house, 1)
                hall.put("a", None, name)
                for k in range(cell):
                    turn(hall)
                hall.flight("f", cart, cell + (least or 0))
                hall.flight("g", cart, max(cell + (least or 0) - 1, 0))
                hall.read("a", "f")
                self.assertEqual(hall.cart_of("a"), house[1][0] if least is None else cart)
                self.assertEqual(hall.late(), ["a"] if least is None else [])
                hall.read("a", "g")
                self.assertEqual((hall.cart_of("a"), hall.late()), ("hand", ["a"]))

    def test_the_late_ones_are_told_in_the_order_of_belts_and_cells(self):
        hall = self.hall()
        hall.put("z", "torome", "main")
        turn(hall)
        hall.put("y", "torome", "main")
        hall.put("b", "tooslo", "loop")
        hall.put("a", "torome", "side")
        turn(hall)
        hall.put("x", None, "main")
        hall.put("c", "torome", "loop")
        self.assertEqual([told[0] for told in hall.bags()], ["x", "y", "z", "c", "b"])
        self.assertEqual(hall.late(), ["y", "z", "c"])

    def test_bags_that_are_out(self):
        hall = self.hall()
        hall.put("a", "tooslo", "side")
        hall.put("b", "toparis", "loop")
        for k in range(4):
            turn(hall)
        self.assertEqual(hall.out(), [("a", "oslo", 1), ("b", "paris", 4)])
        self.assertEqual((hall.where("a"), hall.where("b")), ("oslo", "paris"))
        self.assertEqual((hall.bags(), hall.late()), ([], []))
        for bag in ("a", "b", "c"):
            self.refuses(NoBag, hall, "cart_of", bag)
        self.refuses(NoBag, hall, "where", "c")
        hall.call_off("tooslo")
        hall.change("toparis", 0)
        self.assertEqual((hall.where("a"), hall.where("b")), ("oslo", "paris"))

    def test_no_bag(self):
        hall = self.hall()
        hall.put("a", None, "main")
        for bag in NO_NAMES + ["b", "main", "oslo", None, ["a"]]:
            self.refuses(NoBag, hall, "cart_of", bag)
            self.refuses(NoBag, hall, "where", bag)


class Move(HallCase):
    """What a hall keeps for turns: it looks at nothing but the moves."""

    def test_no_moves(self):
        hall = self.hall()
        hall.put("a", None, "main")
        self.does(hall, "move", [])
        self.assertEqual((hall.moment(), hall.where("a")), (1, ("main", 0)))

    def test_places_and_carts(self):
        hall = self.hall()
        for bag, belt in (("a", "main"), ("b", "loop"), ("c", "side")):
            hall.put(bag, "tooslo", belt)
        self.does(hall, "move", [("a", ("main", 1)), ("b", ("loop", 1)), ("c", "oslo")])
        self.assertEqual(hall.bags(), [("a", "tooslo", ("main", 1), 0), ("b", "tooslo", ("loop", 1), 0)])
        self.assertEqual((hall.moment(), hall.out(), hall.where("c")), (1, [("c", "oslo", 1)], "oslo"))

    def test_those_of_one_moment_are_out_as_they_were_told(self):
        hall = self.hall()
        for bag, belt in (("c", "main"), ("b", "loop"), ("a", "side")):
            hall.put(bag, None, belt)
        hall.move([("c", "hand"), ("b", "paris"), ("a", "hand")])
        self.assertEqual(hall.out(), [("c", "hand", 1), ("b", "paris", 1), ("a", "hand", 1)])

    def test_it_looks_at_nothing_else(self):
        hall = self.hall()
        hall.put("a", "tooslo", "main")
        hall.stop("main")
        hall.stop("loop")
        hall.move([("a", ("loop", 0))])
        self.assertEqual(hall.bags(), [("a", "tooslo", ("loop", 0), 0)])
        hall.move([("a", "rome")])
        self.assertEqual(hall.out(), [("a", "rome", 2)])

    def test_rounds(self):
        hall = self.hall()
        hall.put("a", None, "loop")
        for k in range(3):
            for cell in (1, 2, 3):
                hall.move([("a", ("loop", cell))])
                self.assertEqual(hall.bags()[0][3], k)
            hall.move([("a", ("loop", 0))])
            self.assertEqual(hall.bags()[0][3], k + 1)

    def test_no_round_from_belt_to_belt(self):
        hall = self.hall()
        hall.put("a", None, "main")
        for place in (("main", 1), ("main", 2), ("loop", 0), ("loop", 1), ("loop", 2), ("loop", 3), ("side", 0)):
            hall.move([("a", place)])
            self.assertEqual(hall.bags(), [("a", None, place, 0)])

    def test_moves_are_not_changed_nor_kept(self):
        hall = self.hall()
        hall.put("a", None, "main")
        hall.put("b", None, "side")
        moves = [("a", ("main", 1)), ("b", "hand")]
        hall.move(moves)
        self.assertEqual(moves, [("a", ("main", 1)), ("b", "hand")])
        moves.clear()
        self.assertEqual((hall.where("a"), hall.where("b")), (("main", 1), "hand"))


class Deeds(HallCase):
    def test_many_deeds_against_a_plain_hall(self):
        seen = {}
        for house, rounds, deeds in some_halls(31, 40):
            hall, plain = Hall(house, rounds), PlainHall(house, rounds)
            for deed, *handed in deeds:
                if deed == "turn":
                    turn(hall)
                    plain.turn()
                else:
                    asked = getattr(plain, deed)(*handed)
                    seen[deed, asked] = True
                    if asked is None:
                        self.does(hall, deed, *handed)
                    else:
                        self.refuses(getattr(errors, asked), hall, deed, *handed)
                self.assertEqual(told_by(hall), plain.told())
        # Each deed was done, and each of its refusals was met.
        for deed, refusals in (
            ("flight", ["NoName", "NoOut", "NoMoment"]), ("change", ["NoFlight", "NoMoment"]),
            ("call_off", ["NoFlight"]), ("put", ["NoName", "NoFlight", "NoBelt", "NoRoom"]),
            ("read", ["NoBag", "NoFlight"]), ("stop", ["NoBelt"]), ("start", ["NoBelt"]),
        ):
            for asked in refusals + [None]:
                self.assertIn((deed, asked), seen)


if __name__ == "__main__":
    unittest.main()
