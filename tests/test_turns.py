"""Promises 2, 22 to 25: what each bag wants, who moves and who stands, and the log of a turn."""

import unittest

from carry.halls import Hall
from carry.turns import turn, wanted
from plain import PlainHall, house_at_the_bounds, ordinary_house, some_halls, told_by


class TurnCase(unittest.TestCase):
    def hall(self, belts, rounds=0, carts=("hand", "oslo"), bags=(), stopped=()):
        """A hall with bags as (name, place) or (name, place, flight); for each cart there is a flight to it."""
        hall = Hall((list(belts), list(carts)), rounds)
        for cart in carts[1:]:
            hall.flight("to" + cart, cart, 1000)
        # The foremost ones first, as each comes in at cell 0.
        for bag, place, *flight in sorted(bags, key=lambda told: -told[1][1]):
            hall.put(bag, flight[0] if flight else None, place[0])
            if place[1] > 0:
                hall.move([(bag, place)])
        for belt in stopped:
            hall.stop(belt)
        return hall

    def wants(self, hall):
        """What is wanted, and the hall is as before."""
        before = told_by(hall)
        told = wanted(hall)
        self.assertEqual(told_by(hall), before)
        self.assertIs(type(told), list)
        self.assertTrue(all(type(one) is tuple for one in told))
        self.assertEqual([bag for bag, goal in told], [one[0] for one in hall.bags()])
        return dict(told)

    def log(self, hall):
        """The log, once it is held against what the hall tells ahead of the turn and behind it."""
        moment, bags, out, kept = hall.moment(), hall.bags(), hall.out(), (hall.flights(), hall.stopped())
        wants = self.wants(hall)
        log = turn(hall)
        self.assertEqual(hall.moment(), moment + 1)
        self.assertEqual((hall.flights(), hall.stopped()), kept)
        self.assertIs(type(log), list)
        self.assertEqual([one[:2] for one in log], [(bag, place) for bag, flight, place, rounds in bags])
        for bag, was, now, why in log:
            self.assertEqual(hall.where(bag), now)
            self.assertEqual(now, was if why else wants[bag])
            if why:
                self.assertEqual([type(why), len(why), type(why[1])], [tuple, 2, str])
        gone = [(bag, now, moment + 1) for bag, was, now, why in log if isinstance(now, str)]
        self.assertEqual(hall.out(), out + gone)
        places = [place for bag, flight, place, rounds in hall.bags()]
        self.assertEqual(len(set(places)), len(places))
        self.assertEqual(sorted(one[0] for one in hall.bags() + gone), sorted(one[0] for one in bags))
        return log

    def whys(self, hall):
        return {bag: why for bag, was, now, why in self.log(hall)}


LINE = ("line", 4, False, ["oslo", "hand"])
RING = ("loop", 3, True, ["oslo", "hand"])


class Wanted(TurnCase):
    def test_no_bags(self):
        hall = Hall(ordinary_house(), 1)
        self.assertEqual(wanted(hall), [])

    def test_the_next_cell(self):
        hall = self.hall([LINE, RING], bags=[("b", ("line", 2), "tooslo"), ("c", ("loop", 1)), ("a", ("line", 0))])
        self.assertEqual(wanted(hall), [("a", ("line", 1)), ("b", ("line", 3)), ("c", ("loop", 2))])

    def test_the_next_cell_whoever_is_in_it(self):
        hall = self.hall([LINE], bags=[("a", ("line", 3)), ("b", ("line", 2)), ("c", ("line", 1))], stopped=["line"])
        self.assertEqual(self.wants(hall), {"c": ("line", 2), "b": ("line", 3), "a": "hand"})

    def test_from_the_last_cell_its_cart(self):
        hall = self.hall([("x", 1, False, ["hand", "oslo"]), ("y", 1, False, ["hand", "oslo"])],
                         bags=[("a", ("x", 0), "tooslo"), ("b", ("y", 0))])
        self.assertEqual(self.wants(hall), {"a": "oslo", "b": "hand"})

    def test_from_the_last_cell_the_arms_out(self):
        belts = [("x", 1, False, ["long", "short", "also"]), ("long", 2, False, ["oslo", "hand"]),
                 ("short", 1, False, ["oslo", "hand"]), ("also", 1, False, ["oslo", "hand"])]
        self.assertEqual(self.wants(self.hall(belts, bags=[("a", ("x", 0), "tooslo")])), {"a": ("short", 0)})
        belts[0] = ("x", 1, False, ["long", "also", "short"])
        self.assertEqual(self.wants(self.hall(belts, bags=[("a", ("x", 0))])), {"a": ("also", 0)})

    def test_a_belt_that_is_no_ring_waits_for_the_arms_out(self):
        belts = [("x", 1, False, ["y"]), ("y", 2, False, ["oslo", "hand"])]
        hall = self.hall(belts, 5, bags=[("b", ("y", 0)), ("a", ("x", 0), "tooslo")])
        self.assertEqual(self.wants(hall), {"a": ("y", 0), "b": ("y", 1)})
        hall.stop("y")
        self.assertEqual(self.wants(hall), {"a": ("y", 0), "b": ("y", 1)})

    def test_for_the_hand_where_it_is_late(self):
        belts = [("x", 1, False, ["p", "q"]), ("p", 3, False, ["oslo", "hand"]), ("q", 2, False, ["hand"])]
        hall = self.hall(belts, bags=[("a", ("x", 0), "tooslo")])
        for closing, goal in ((4, ("p", 0)), (3, ("q", 0)), (1000, ("p", 0))):
            hall.change("tooslo", closing)
            self.assertEqual(self.wants(hall), {"a": goal})
        hall.call_off("tooslo")
        self.assertEqual(self.wants(hall), {"a": ("q", 0)})

    def test_a_ring_without_a_reading(self):
        for rounds in range(4):
            hall = self.hall([RING], rounds)
            hall.put("a", None, "loop")
            for gone in range(rounds):
                for cell in (1, 2, 0):
                    self.assertEqual(self.wants(hall), {"a": ("loop", cell)})
                    turn(hall)
                self.assertEqual(hall.bags(), [("a", None, ("loop", 0), gone + 1)])
            turn(hall)
            turn(hall)
            self.assertEqual((hall.where("a"), self.wants(hall)), (("loop", 2), {"a": "hand"}))

    def test_a_ring_with_a_reading(self):
        hall = self.hall([RING], 9, bags=[("a", ("loop", 2), "tooslo")])
        self.assertEqual(self.wants(hall), {"a": "oslo"})
        hall.change("tooslo", 0)
        self.assertEqual((hall.late(), self.wants(hall)), (["a"], {"a": "hand"}))

    def test_a_ring_and_a_flight_that_is_none_any_more(self):
        hall = self.hall([RING], 1, bags=[("a", ("loop", 2), "tooslo")])
        hall.call_off("tooslo")
        self.assertEqual(self.wants(hall), {"a": ("loop", 0)})
        hall.flight("tooslo", "oslo", 1000)
        self.assertEqual(self.wants(hall), {"a": ("loop", 0)})
        hall.read("a", "tooslo")
        self.assertEqual(self.wants(hall), {"a": "oslo"})
        hall.call_off("tooslo")
        for k in range(3):
            turn(hall)
        self.assertEqual((hall.bags(), self.wants(hall)), ([("a", None, ("loop", 2), 1)], {"a": "hand"}))

    def test_a_ring_whose_arms_out_is_busy(self):
        belts = [("loop", 3, True, ["x", "y"]), ("x", 2, False, ["oslo", "hand"]), ("y", 3, False, ["oslo", "hand"])]
        bags = [("a", ("loop", 2), "tooslo")]
        self.assertEqual(self.wants(self.hall(belts, bags=bags)), {"a": ("x", 0)})
        self.assertEqual(self.wants(self.hall(belts, bags=bags, stopped=["x"])), {"a": ("loop", 0)})
        hall = self.hall(belts, bags=bags + [("b", ("x", 0))])
        self.assertEqual(self.wants(hall), {"a": ("loop", 0), "b": ("x", 1)})
        # What is in another cell, and what is on another belt, is nothing to it.
        hall = self.hall(belts, bags=bags + [("b", ("x", 1)), ("c", ("y", 0))], stopped=["y"])
        self.assertEqual(self.wants(hall), {"a": ("x", 0), "b": "hand", "c": ("y", 1)})

    def test_a_ring_that_is_stopped_itself_or_full(self):
        bags = [("a", ("loop", 2), "tooslo"), ("b", ("loop", 1)), ("c", ("loop", 0))]
        hall = self.hall([RING], bags=bags, stopped=["loop"])
        self.assertEqual(self.wants(hall), {"c": ("loop", 1), "b": ("loop", 2), "a": "oslo"})
        hall = self.hall([("loop", 3, True, ["x"]), ("x", 1, False, ["oslo", "hand"])], bags=bags)
        self.assertEqual(self.wants(hall)["a"], ("x", 0))

    def test_the_first_reason_that_keeps_it_on_the_ring_is_enough(self):
        belts = [("loop", 3, True, ["x"]), ("x", 1, False, ["oslo", "hand"])]
        hall = self.hall(belts, 1, bags=[("a", ("loop", 2)), ("b", ("x", 0))], stopped=["x"])
        self.assertEqual(self.wants(hall)["a"], ("loop", 0))

    def test_told_is_the_askers_own(self):
        hall = self.hall([LINE], bags=[("a", ("line", 1))])
        wanted(hall).clear()
        told = wanted(hall)
        turn(hall)
        self.assertEqual((told, wanted(hall)), ([("a", ("line", 2))], [("a", ("line", 3))]))


class Stopped(TurnCase):
    def test_on_a_stopped_belt(self):
        hall = self.hall([LINE, RING], bags=[("a", ("line", 1)), ("b", ("line", 3), "tooslo"), ("c", ("loop", 1))],
                         stopped=["line"])
        self.assertEqual(self.log(hall), [
            ("a", ("line", 1), ("line", 1), ("stopped", "line")),
            ("b", ("line", 3), ("line", 3), ("stopped", "line")),
            ("c", ("loop", 1), ("loop", 2), None),
        ])

    def test_one_that_wants_a_cell_of_a_stopped_belt(self):
        belts = [("x", 2, False, ["y"]), ("y", 2, False, ["oslo", "hand"])]
        hall = self.hall(belts, bags=[("b", ("y", 1)), ("a", ("x", 1)), ("c", ("x", 0))], stopped=["y"])
        self.assertEqual(self.whys(hall),
                         {"c": ("behind", "a"), "a": ("stopped", "y"), "b": ("stopped", "y")})

    def test_the_belt_on_which_it_is_comes_first(self):
        belts = [("x", 1, False, ["y"]), ("y", 2, False, ["oslo", "hand"])]
        hall = self.hall(belts, bags=[("a", ("x", 0))], stopped=["x", "y"])
        self.assertEqual(self.whys(hall), {"a": ("stopped", "x")})
        hall.start("x")
        self.assertEqual(self.whys(hall), {"a": ("stopped", "y")})
        hall.start("y")
        self.assertEqual(self.whys(hall), {"a": None})

    def test_a_ring_goes_round_while_the_arms_out_is_stopped(self):
        belts = [("loop", 2, True, ["x"]), ("x", 1, False, ["oslo", "hand"])]
        hall = self.hall(belts, bags=[("a", ("loop", 1), "tooslo")], stopped=["x"])
        for k in range(4):
            self.assertEqual(self.whys(hall), {"a": None})
        self.assertEqual(hall.bags(), [("a", "tooslo", ("loop", 1), 2)])

    def test_stopped_is_told_ahead_of_yields_and_behind(self):
        belts = [("a", 1, False, ["c"]), ("b", 1, False, ["c"]), ("c", 1, False, ["hand"])]
        hall = self.hall(belts, carts=["hand"], bags=[("x", ("a", 0)), ("y", ("b", 0)), ("z", ("c", 0))],
                         stopped=["c"])
        self.assertEqual(self.whys(hall), {bag: ("stopped", "c") for bag in "xyz"})
        hall = self.hall([LINE], bags=[("x", ("line", 0)), ("y", ("line", 1))], stopped=["line"])
        self.assertEqual(self.whys(hall), {bag: ("stopped", "line") for bag in "xy"})

    def test_one_on_a_stopped_belt_keeps_no_other_from_the_cell(self):
        belts = [("a", 1, False, ["c"]), ("b", 1, False, ["c"]), ("c", 2, True, ["hand"])]
        hall = self.hall(belts, carts=["hand"], bags=[("x", ("a", 0)), ("y", ("b", 0))], stopped=["a"])
        self.assertEqual(self.whys(hall), {"x": ("stopped", "a"), "y": None})
        self.assertEqual(hall.where("y"), ("c", 0))

    def test_nobody_is_let_out_of_a_stopped_belt_onto_a_cart(self):
        hall = self.hall([LINE], bags=[("a", ("line", 3), "tooslo")], stopped=["line"])
        self.assertEqual(self.whys(hall), {"a": ("stopped", "line")})


class Let(TurnCase):
    MEET = [("a", 1, False, ["d"]), ("b", 2, False, ["d"]), ("c", 1, False, ["d"]),
            ("d", 2, True, ["oslo", "hand"])]

    def test_the_one_whose_belt_comes_first(self):
        for order in ("xyz", "zyx", "yxz"):
            places = {"x": ("a", 0), "y": ("b", 1), "z": ("c", 0)}
            hall = self.hall(self.MEET, bags=[(bag, places[bag]) for bag in order])
            self.assertEqual(self.whys(hall), {"x": None, "y": ("yields", "x"), "z": ("yields", "x")})
            self.assertEqual(self.whys(hall), {"x": None, "y": None, "z": ("yields", "y")})

    def test_not_by_the_bags_names(self):
        hall = self.hall(self.MEET, bags=[("z", ("a", 0)), ("a", ("c", 0))])
        self.assertEqual(self.whys(hall), {"z": None, "a": ("yields", "z")})

    def test_the_one_on_that_very_belt(self):
        hall = self.hall(self.MEET, 1, bags=[("x", ("a", 0)), ("r", ("d", 1)), ("y", ("b", 1))])
        self.assertEqual(self.whys(hall), {"x": ("yields", "r"), "y": ("yields", "r"), "r": None})
        self.assertEqual(hall.bags()[-1], ("r", None, ("d", 0), 1))

    def test_one_that_yields_stands_though_the_other_stands_too(self):
        belts = [("a", 1, False, ["c"]), ("b", 1, False, ["c"]), ("c", 2, False, ["e"]), ("e", 1, False, ["hand"])]
        bags = [("x", ("a", 0)), ("y", ("b", 0)), ("z", ("c", 0)), ("w", ("c", 1))]
        hall = self.hall(belts, carts=["hand"], bags=bags, stopped=["e"])
        self.assertEqual(self.whys(hall), {"x": ("behind", "z"), "y": ("yields", "x"), "z": ("behind", "w"),
                                           "w": ("stopped", "e")})

    def test_yields_is_told_ahead_of_behind(self):
        belts = [("a", 1, False, ["c"]), ("b", 1, False, ["c"]), ("c", 1, False, ["e"]), ("e", 1, False, ["hand"])]
        hall = self.hall(belts, carts=["hand"], bags=[("x", ("a", 0)), ("y", ("b", 0)), ("z", ("c", 0))],
                         stopped=["e"])
        self.assertEqual(self.whys(hall), {"x": ("behind", "z"), "y": ("yields", "x"), "z": ("stopped", "e")})

    def test_several_onto_one_cart_at_a_turn(self):
        belts = [(name, 1, False, ["oslo", "hand"]) for name in "abc"]
        bags = [("x", ("c", 0), "tooslo"), ("y", ("a", 0), "tooslo"), ("z", ("b", 0))]
        hall = self.hall(belts, bags=bags)
        moment = hall.moment()
        self.assertEqual(self.log(hall), [("y", ("a", 0), "oslo", None), ("z", ("b", 0), "hand", None),
                                          ("x", ("c", 0), "oslo", None)])
        self.assertEqual(hall.out(), [("y", "oslo", moment + 1), ("z", "hand", moment + 1), ("x", "oslo", moment + 1)])


class Behind(TurnCase):
    def test_a_row_of_bags_that_moves(self):
        hall = self.hall([LINE], bags=[(bag, ("line", cell)) for cell, bag in enumerate("dcba")])
        self.assertEqual(self.log(hall), [
            ("d", ("line", 0), ("line", 1), None), ("c", ("line", 1), ("line", 2), None),
            ("b", ("line", 2), ("line", 3), None), ("a", ("line", 3), "hand", None),
        ])

    def test_a_row_of_bags_that_stands(self):
        belts = [LINE[:3] + (["e"],), ("e", 1, False, ["hand"])]
        hall = self.hall(belts, carts=["hand"], bags=[(bag, ("line", cell)) for cell, bag in enumerate("dcba")],
                         stopped=["e"])
        self.assertEqual(self.whys(hall), {"d": ("behind", "c"), "c": ("behind", "b"), "b": ("behind", "a"),
                                           "a": ("stopped", "e")})

    def test_a_row_with_a_gap(self):
        belts = [("line", 5, False, ["e"]), ("e", 1, False, ["hand"])]
        hall = self.hall(belts, carts=["hand"], stopped=["e"],
                         bags=[("d", ("line", 0)), ("c", ("line", 1)), ("b", ("line", 3)), ("a", ("line", 4))])
        self.assertEqual(self.whys(hall), {"d": None, "c": None, "b": ("behind", "a"), "a": ("stopped", "e")})
        self.assertEqual(self.whys(hall), {"d": ("behind", "c"), "c": ("behind", "b"), "b": ("behind", "a"),
                                           "a": ("stopped", "e")})

    def test_behind_one_that_yields_over_belts(self):
        # First is the row that stands, then the belt onto which both rows lead.
        belts = [("x", 2, False, ["y"]), ("y", 1, False, ["z"]), ("p", 1, False, ["z"]), ("z", 3, True, ["hand"])]
        hall = self.hall(belts, 3, carts=["hand"],
                         bags=[("a", ("x", 0)), ("b", ("x", 1)), ("c", ("y", 0)), ("d", ("p", 0)), ("r", ("z", 2))])
        self.assertEqual(self.whys(hall), {"a": ("behind", "b"), "b": ("behind", "c"), "c": ("yields", "r"),
                                           "d": ("yields", "r"), "r": None})
        self.assertEqual(self.whys(hall), {"a": None, "b": None, "c": None, "d": ("yields", "c"), "r": None})

    def test_into_a_cell_whose_bag_moves_from_another_belt(self):
        belts = [("x", 1, False, ["y"]), ("y", 1, False, ["hand"])]
        hall = self.hall(belts, carts=["hand"], bags=[("a", ("x", 0)), ("b", ("y", 0))])
        self.assertEqual(self.log(hall), [("a", ("x", 0), ("y", 0), None), ("b", ("y", 0), "hand", None)])

    def test_all_bags_of_a_full_ring(self):
        for long in (2, 3, 8):
            belts = [("a", 1, False, ["loop"]), ("loop", long, True, ["hand"])]
            bags = [(chr(ord("p") + cell), ("loop", cell)) for cell in range(long)]
            hall = self.hall(belts, 1, carts=["hand"], bags=bags + [("a", ("a", 0))])
            last = bags[-1][0]
            whys = self.whys(hall)
            self.assertEqual(whys.pop("a"), ("yields", last))
            self.assertEqual(set(whys.values()), {None})
            self.assertEqual(hall.where(last), ("loop", 0))
            self.assertEqual([told[3] for told in hall.bags()], [0, 1] + [0] * (long - 1))

    def test_a_full_ring_whose_out_is_stopped(self):
        belts = [("loop", 3, True, ["x"]), ("x", 1, False, ["oslo", "hand"])]
        bags = [(bag, ("loop", cell), "tooslo") for cell, bag in enumerate("cba")]
        hall = self.hall(belts, bags=bags, stopped=["x"])
        for k in range(6):
            self.assertEqual(set(self.whys(hall).values()), {None})
        self.assertEqual([told[3] for told in hall.bags()], [2, 2, 2])

    def test_a_full_ring_that_lets_one_off_takes_one_on(self):
        belts = [("a", 1, False, ["loop"]), ("loop", 2, True, ["oslo", "hand"])]
        hall = self.hall(belts, bags=[("x", ("a", 0)), ("y", ("loop", 0)), ("z", ("loop", 1), "tooslo")])
        self.assertEqual(self.log(hall), [("x", ("a", 0), ("loop", 0), None), ("y", ("loop", 0), ("loop", 1), None),
                                          ("z", ("loop", 1), "oslo", None)])

    def test_no_ring_turns_off_into_a_cell_whose_bag_moves_on(self):
        # By what is so at the turn's begin: the cell has a bag, though that one moves.
        belts = [("loop", 2, True, ["x"]), ("x", 2, False, ["oslo", "hand"])]
        hall = self.hall(belts, bags=[("b", ("x", 0)), ("a", ("loop", 1), "tooslo")])
        self.assertEqual(self.log(hall), [("a", ("loop", 1), ("loop", 0), None), ("b", ("x", 0), ("x", 1), None)])
        self.assertEqual(hall.bags()[0], ("a", "tooslo", ("loop", 0), 1))


class Rounds(TurnCase):
    def test_counted_only_from_a_rings_last_cell_to_its_first(self):
        hall = self.hall([("x", 2, False, ["loop"]), RING], 2)
        hall.put("a", None, "x")
        told = []
        while hall.bags():
            told.append(hall.bags()[0][2:])
            self.log(hall)
        self.assertEqual(told, [(("x", 0), 0), (("x", 1), 0)] + [(("loop", cell), k) for k in range(3)
                                                                for cell in range(3)])
        self.assertEqual(hall.out(), [("a", "hand", 11)])

    def test_a_bag_keeps_its_rounds_from_ring_to_ring(self):
        belts = [("one", 2, True, ["two"]), ("two", 2, True, ["oslo", "hand"])]
        hall = self.hall(belts, 1)
        hall.put("a", None, "one")
        for k in range(4):
            self.log(hall)
        self.assertEqual(hall.bags(), [("a", None, ("two", 0), 1)])
        for k in range(2):
            self.log(hall)
        self.assertEqual(hall.where("a"), "hand")


class Log(TurnCase):
    def test_a_turn_without_bags(self):
        hall = Hall(ordinary_house(), 1)
        for moment in (1, 2, 3):
            self.assertEqual(self.log(hall), [])
            self.assertEqual(hall.moment(), moment)

    def test_in_the_order_of_belts_and_cells(self):
        hall = self.hall([LINE, RING], bags=[("a", ("loop", 2)), ("b", ("line", 3)), ("c", ("loop", 0)),
                                             ("d", ("line", 0))])
        self.assertEqual([told[0] for told in self.log(hall)], ["d", "b", "c", "a"])

    def test_out_by_moments_then_as_the_log_tells(self):
        belts = [("b", 1, False, ["oslo", "hand"]), ("a", 2, False, ["oslo", "hand"]), ("c", 1, False, ["hand"])]
        hall = self.hall(belts)
        hall.put("z", None, "c")
        hall.put("y", "tooslo", "a")
        hall.put("x", "tooslo", "b")
        self.log(hall)
        hall.put("w", None, "b")
        hall.put("u", None, "c")
        self.log(hall)
        self.assertEqual(hall.out(), [("x", "oslo", 1), ("z", "hand", 1), ("w", "hand", 2), ("y", "oslo", 2),
                                      ("u", "hand", 2)])

    def test_the_log_is_the_askers_own(self):
        hall = self.hall([LINE], bags=[("a", ("line", 0)), ("b", ("line", 1))])
        log = turn(hall)
        kept = list(log)
        turn(hall)
        self.assertEqual(log, kept)
        after = told_by(hall)
        log.clear()
        self.assertEqual(told_by(hall), after)

    def test_what_is_told_behind_a_turn(self):
        # In time by the least way, late behind a turn at which it stood; the others go their way.
        belts = [("a", 1, False, ["c"]), ("b", 1, False, ["c"]), ("c", 2, False, ["oslo", "hand"])]
        hall = Hall((belts, ["hand", "oslo"]), 0)
        hall.flight("f", "oslo", 3)
        hall.put("x", "f", "a")
        hall.put("y", "f", "b")
        self.assertEqual((hall.late(), hall.cart_of("y")), ([], "oslo"))
        self.assertEqual(self.whys(hall), {"x": None, "y": ("yields", "x")})
        self.assertEqual((hall.late(), hall.where("x"), hall.where("y")), (["y"], ("c", 0), ("b", 0)))
        for k in range(3):
            self.log(hall)
        self.assertEqual(hall.out(), [("x", "oslo", 3), ("y", "hand", 4)])


class Runs(TurnCase):
    def test_many_turns_against_a_plain_hall(self):
        seen = {}
        for house, rounds, deeds in some_halls(41, 60):
            hall, plain = Hall(house, rounds), PlainHall(house, rounds)
            for deed, *handed in deeds:
                if deed == "turn":
                    self.assertEqual(wanted(hall), plain.wanted())
                    log = self.log(hall)
                    self.assertEqual(log, plain.turn())
                    for bag, was, now, why in log:
                        seen[why and why[0]] = seen.get(why and why[0], 0) + 1
                elif getattr(plain, deed)(*handed) is None:
                    getattr(hall, deed)(*handed)
                self.assertEqual(told_by(hall), plain.told())
        self.assertTrue(all(seen[why] > 50 for why in (None, "stopped", "yields", "behind")), seen)

    def test_full_rings_that_meet_against_a_plain_hall(self):
        belts = [("a", 2, True, ["b", "c"]), ("b", 2, True, ["c", "oslo"]), ("c", 3, True, ["d", "hand"]),
                 ("d", 1, False, ["oslo", "hand"])]
        for rounds in range(4):
            for stopped in ([], ["a"], ["b"], ["c"], ["d"], ["b", "d"]):
                house = (belts, ["hand", "oslo"])
                hall, plain = Hall(house, rounds), PlainHall(house, rounds)
                for both in (hall, plain):
                    both.flight("f", "oslo", 14)
                    for belt in stopped:
                        both.stop(belt)
                for number in range(40):
                    for belt in "abcd":
                        bag = "bag" + chr(ord("a") + number // 8) + belt
                        flight = "f" if (number + ord(belt)) % 3 else None
                        if plain.put(bag, flight, belt) is None:
                            hall.put(bag, flight, belt)
                    self.assertEqual(wanted(hall), plain.wanted())
                    self.assertEqual(self.log(hall), plain.turn())
                    self.assertEqual(told_by(hall), plain.told())

    def test_eight_bags_in_a_house_at_the_bounds(self):
        hall, plain = Hall(house_at_the_bounds(), 2), PlainHall(house_at_the_bounds(), 2)
        for both in (hall, plain):
            for name, cart, closing in (("f", "oslo", 20), ("g", "paris", 40), ("h", "rome", 15), ("k", "lima", 90)):
                both.flight(name, cart, closing)
        names = iter("abcdefghijklmnopqrstuvwxyz")
        for k in range(90):
            for belt in ("north", "south", "loop"):
                if len(plain.bags) < 8 and plain.bag_at((belt, 0)) is None and k < 12:
                    bag, flight = next(names), "fghk"[k % 4] if k % 5 else None
                    self.assertIsNone(plain.put(bag, flight, belt))
                    hall.put(bag, flight, belt)
            self.assertEqual(self.log(hall), plain.turn())
            self.assertEqual(told_by(hall), plain.told())
        self.assertEqual(hall.bags(), [])


if __name__ == "__main__":
    unittest.main()
