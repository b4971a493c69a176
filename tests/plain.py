"""What the tests hold the program against: the document's words done plainly, without the program.

Here are houses to try as well. Nothing here draws from the package.
"""

import functools
import itertools
import random
import re


def plain_belt(house, name):
    return next(belt for belt in house[0] if belt[0] == name)


def plain_steps(house, place):
    name, cell = place
    belt, long, ring, outs = plain_belt(house, name)
    if cell < long - 1:
        return [(name, cell + 1)]
    told = []
    for out in outs:
        told.append(out if out in house[1] else (out, 0))
    return told + ([(name, 0)] if ring else [])


def plain_far(house, place, cart):
    """Turn by turn all the places in which the bag can be."""
    now, seen, turns = {place}, {place}, 0
    while now:
        turns += 1
        reach = {goal for here in now for goal in plain_steps(house, here)}
        if cart in reach:
            return turns
        now = {goal for goal in reach if isinstance(goal, tuple)} - seen
        seen |= now
    return None


def all_places(house):
    return [(belt[0], cell) for belt in house[0] for cell in range(belt[1])]


def all_ways(house, place, cart, turns):
    """Every way by turns of at most so many turns."""
    if turns == 0:
        return []
    told = []
    for goal in plain_steps(house, place) + [place]:
        if goal == cart:
            told.append([place, cart])
        elif isinstance(goal, tuple):
            told += [[place] + behind for behind in all_ways(house, goal, cart, turns - 1)]
    return told


def apart(ways):
    """Whether at no moment two of the ways have the same place, two by two and moment by moment."""
    for one, other in itertools.combinations(ways, 2):
        for here, there in zip(one, other):
            if isinstance(here, tuple) and here == there:
                return False
    return True


def is_cut(house, places, cart, turns, cut):
    """Every way by turns is at one of the spots."""
    for place in places:
        for told in all_ways(house, place, cart, turns):
            spots = [(here[0], here[1], moment) for moment, here in enumerate(told[:-1])]
            if not any(spot in cut for spot in spots):
                return False
    return True


def most_by_ways(house, places, cart, turns):
    """As many as can be of all ways, tried one place after the other."""
    lists = [all_ways(house, place, cart, turns) for place in places]

    def most(k, chosen):
        if k == len(lists):
            return len(chosen)
        best = most(k + 1, chosen)
        for told in lists[k]:
            if best == len(lists) - k + len(chosen):
                break
            if apart(chosen + [told]):
                best = max(best, most(k + 1, chosen + [told]))
        return best

    return most(0, [])


def most_by_moments(house, places, cart, turns):
    """As many as can be of all that can stand in the house at each moment; for more places than most_by_ways."""
    @functools.lru_cache(None)
    def all_there(bags, left):
        if not bags:
            return True
        if left == 0:
            return False
        goals = [plain_steps(house, place) + [place] for place in bags]
        for choice in itertools.product(*goals):
            kept = [goal for goal in choice if isinstance(goal, tuple)]
            if any(isinstance(goal, str) and goal != cart for goal in choice) or len(set(kept)) < len(kept):
                continue
            if all_there(tuple(sorted(kept)), left - 1):
                return True
        return False

    for count in range(len(places), 0, -1):
        if any(all_there(tuple(sorted(some)), turns) for some in itertools.combinations(places, count)):
            return count
    return 0


def ordinary_house():
    """Belts that meet, a ring, ways of unlike length; the cart rome can be come to from nowhere."""
    belts = [
        ("main", 3, False, ["loop", "side"]),
        ("loop", 4, True, ["paris", "side"]),
        ("side", 1, False, ["oslo", "hand"]),
    ]
    return (belts, ["hand", "paris", "oslo", "rome"])


def house_at_the_bounds():
    """Six belts, thirty cells, five carts, two rings."""
    belts = [
        ("north", 6, False, ["loop", "cross"]),
        ("south", 5, False, ["cross", "loop"]),
        ("loop", 8, True, ["oslo", "back", "end"]),
        ("cross", 3, False, ["back", "paris"]),
        ("back", 5, True, ["rome", "end", "paris"]),
        ("end", 3, False, ["hand", "oslo", "lima"]),
    ]
    return (belts, ["hand", "oslo", "paris", "rome", "lima"])


def small_houses(seed, count, most_cells=3):
    """Houses that fit, unlike in all that a house may be unlike in; the same ones for the same seed."""
    chance = random.Random(seed)
    for k in range(count):
        names = ["a", "b", "c", "d"][:chance.randint(1, 4)]
        carts = ["hand", "oslo", "paris"][:chance.randint(1, 3)]
        belts = []
        for number, name in enumerate(names):
            ring = chance.random() < 0.4
            behind = names[number + 1:]
            # From the last belt the hand is come to, and from each other one a belt behind it or the hand.
            outs = [chance.choice(behind + ["hand"])]
            for out in behind + carts:
                if out not in outs and chance.random() < 0.4:
                    outs.append(out)
            chance.shuffle(outs)
            belts.append((name, chance.randint(2 if ring else 1, most_cells), ring, outs))
        yield (belts, carts)


def meeting_houses(seed, count):
    """Houses of short belts, some of them rings, that all have to go over one or two at the end."""
    chance = random.Random(seed)
    for k in range(count):
        front = ["a", "b", "c", "d"][:chance.randint(2, 4)]
        back = ["y", "z"][:chance.randint(1, 2)]
        belts = []
        for number, name in enumerate(front):
            ring = chance.random() < 0.3
            behind = front[number + 1:] + back
            outs = list(dict.fromkeys([chance.choice(behind), chance.choice(back)]))
            chance.shuffle(outs)
            belts.append((name, chance.randint(2 if ring else 1, 2), ring, outs))
        for name in back:
            ring = chance.random() < 0.3
            belts.append((name, chance.randint(2 if ring else 1, 3), ring, ["hand", "oslo"]))
        yield (belts, ["hand", "oslo"])


def some_places(seed, house, most):
    chance = random.Random(seed)
    places = all_places(house)
    return chance.sample(places, min(len(places), chance.randint(0, most)))


def plain_arm(house, belt, cart):
    """The first of the outs that are the least far."""
    best = None
    for out in plain_belt(house, belt)[3]:
        behind = 0 if out == cart else None if out in house[1] else plain_far(house, (out, 0), cart)
        if behind is not None and (best is None or behind < best[0]):
            best = (behind, out)
    return None if best is None else best[1]


def soonest_by_moments(house, places, cart):
    """Turn by turn all the ways in which the bags can stand in the house, till in one of them none is left."""
    now, turns = {frozenset(places)}, 0
    while frozenset() not in now:
        reach = set()
        for bags in now:
            # The bags go one by one, each to where none went ahead of it at this turn.
            some = {frozenset()}
            for place in bags:
                goals = [goal for goal in plain_steps(house, place) + [place]
                         if goal == cart or isinstance(goal, tuple)]
                some = {kept if goal == cart else kept | {goal}
                        for kept in some for goal in goals if goal not in kept}
            reach |= some
        now, turns = reach, turns + 1
    return turns


class PlainHall:
    """A hall by the document's words; a deed tells the name of its refusal's class, or None."""

    def __init__(self, house, rounds):
        self.house, self.rounds, self.moment = house, rounds, 0
        self.flights, self.stopped, self.bags, self.out, self.names = [], set(), [], [], set()

    def flight_called(self, name):
        return next((one for one in self.flights if one["name"] == name and not one["off"]), None)

    def flight(self, name, cart, closing):
        if re.fullmatch("[a-z]{1,8}", name) is None or self.flight_called(name):
            return "NoName"
        if cart not in self.house[1] or cart == self.house[1][0]:
            return "NoOut"
        if closing < 0:
            return "NoMoment"
        self.flights.append({"name": name, "cart": cart, "closing": closing, "off": False})

    def change(self, name, closing):
        if not self.flight_called(name):
            return "NoFlight"
        if closing < 0:
            return "NoMoment"
        self.flight_called(name)["closing"] = closing

    def call_off(self, name):
        if not self.flight_called(name):
            return "NoFlight"
        self.flight_called(name)["off"] = True

    def put(self, bag, flight, belt):
        if re.fullmatch("[a-z]{1,8}", bag) is None or bag in self.names:
            return "NoName"
        if flight is not None and not self.flight_called(flight):
            return "NoFlight"
        if belt not in [one[0] for one in self.house[0]]:
            return "NoBelt"
        if self.bag_at((belt, 0)):
            return "NoRoom"
        self.names.add(bag)
        self.bags.append({"name": bag, "flight": self.flight_called(flight), "place": (belt, 0), "rounds": 0})

    def read(self, bag, flight):
        found = [one for one in self.bags if one["name"] == bag]
        if not found:
            return "NoBag"
        if not self.flight_called(flight):
            return "NoFlight"
        found[0]["flight"] = self.flight_called(flight)

    def stop(self, belt):
        if belt not in [one[0] for one in self.house[0]]:
            return "NoBelt"
        self.stopped.add(belt)

    def start(self, belt):
        if belt not in [one[0] for one in self.house[0]]:
            return "NoBelt"
        self.stopped.discard(belt)

    def bag_at(self, place):
        return next((one for one in self.bags if one["place"] == place), None)

    def in_order(self):
        return [self.bag_at(place) for place in all_places(self.house) if self.bag_at(place)]

    def flight_now(self, one):
        return one["flight"] if one["flight"] and not one["flight"]["off"] else None

    def cart_now(self, one):
        flight = self.flight_now(one)
        if flight:
            least = plain_far(self.house, one["place"], flight["cart"])
            if least is not None and self.moment + least <= flight["closing"]:
                return flight["cart"]
        return self.house[1][0]

    def want(self, one):
        name, long, ring, outs = plain_belt(self.house, one["place"][0])
        if one["place"][1] < long - 1:
            return (name, one["place"][1] + 1)
        out = plain_arm(self.house, name, self.cart_now(one))
        if ring and not self.flight_now(one) and one["rounds"] < self.rounds:
            return (name, 0)
        if ring and (out in self.stopped or self.bag_at((out, 0))):
            return (name, 0)
        return out if out in self.house[1] else (out, 0)

    def first_why(self, one, wants):
        """Of the first two reasons the one that is so, or None."""
        goal = wants[one["name"]]
        for place in (one["place"], goal):
            if isinstance(place, tuple) and place[0] in self.stopped:
                return ("stopped", place[0])
        if isinstance(goal, str):
            return None
        rivals = [other for other in self.in_order() if wants[other["name"]] == goal
                  and other["place"][0] not in self.stopped]
        own = [other for other in rivals if other["place"][0] == goal[0]]
        first = (own + rivals)[0]
        return None if first is one else ("yields", first["name"])

    def why(self, one, wants, seen=()):
        """Why it stands, or None: it hangs on the bag in the cell that it wants, and so on along the row."""
        first = self.first_why(one, wants)
        other = self.bag_at(wants[one["name"]])
        if first or not other or other["name"] in seen:
            return first
        if self.why(other, wants, seen + (one["name"],)):
            return ("behind", other["name"])
        return None

    def wanted(self):
        return [(one["name"], self.want(one)) for one in self.in_order()]

    def turn(self):
        wants = dict(self.wanted())
        whys = [(one, self.why(one, wants)) for one in self.in_order()]
        self.moment += 1
        log = []
        for one, why in whys:
            was, goal = one["place"], wants[one["name"]]
            log.append((one["name"], was, goal if why is None else was, why))
            if why is None and isinstance(goal, str):
                self.bags.remove(one)
                self.out.append((one["name"], goal, self.moment))
            elif why is None:
                # One turns back to cell 0 of its own belt only from a ring's last cell.
                one["rounds"] += goal == (was[0], 0)
                one["place"] = goal
        return log

    def told(self):
        """All that a hall tells, as told_by has it of one."""
        flights = [one for one in self.flights if not one["off"]]
        bags = self.in_order()
        named = {one["name"]: self.flight_now(one) and self.flight_now(one)["name"] for one in bags}
        return {
            "moment": self.moment,
            "flights": sorted((one["name"], one["cart"], one["closing"]) for one in flights),
            "stopped": [belt[0] for belt in self.house[0] if belt[0] in self.stopped],
            "bags": [(one["name"], named[one["name"]], one["place"], one["rounds"]) for one in bags],
            "out": list(self.out),
            "late": [one["name"] for one in bags
                     if self.flight_now(one) and self.cart_now(one) == self.house[1][0]],
            "where": [one["place"] for one in bags] + [cart for bag, cart, moment in self.out],
            "cart_of": [self.cart_now(one) for one in bags],
            "house": self.house,
            "rounds": self.rounds,
        }


def told_by(hall):
    """All that a hall tells."""
    names = [bag for bag, flight, place, rounds in hall.bags()]
    return {
        "moment": hall.moment(), "flights": hall.flights(), "stopped": hall.stopped(), "bags": hall.bags(),
        "out": hall.out(), "late": hall.late(),
        "where": [hall.where(bag) for bag in names + [bag for bag, cart, moment in hall.out()]],
        "cart_of": [hall.cart_of(bag) for bag in names],
        "house": hall.house(), "rounds": hall.rounds(),
    }


def some_deeds(seed, house, count, wrong=0.1):
    """Deeds at a hall of this house, as tuples of the method's name and its arguments; some of them are refused."""
    chance = random.Random(seed)
    belts, carts = [belt[0] for belt in house[0]], house[1]
    bags = [one + other for one in "abcde" for other in "stuvwxyz"]

    def any_of(right, others):
        return chance.choice(others if chance.random() < wrong else right)

    def flight():
        return any_of(["f", "g", "h"], ["none", "A", "", "toolongname"])

    def closing():
        return any_of([chance.randint(0, 60)], [-1, 0, 999999999])

    def belt():
        return any_of(belts, carts + ["nowhere", ""])

    for name in ("f", "g"):
        yield ("flight", name, chance.choice(carts), chance.randint(3, 30))
    for k in range(count):
        # The names come one after the other, so that those that were used last are in the house by all odds.
        bag = any_of([bags[k * len(bags) // count]], ["", "X", "bag one", "toolongname", bags[0]])
        deed = chance.choice(["flight", "flight", "change", "call_off", "read", "read", "stop or start"]
                             + ["put"] * 6 + ["turn"] * 7)
        if deed == "flight":
            yield (deed, flight(), any_of(carts[1:] or carts, [carts[0], belts[0], "nocart"]), closing())
        elif deed == "change":
            yield (deed, flight(), closing())
        elif deed == "call_off":
            yield (deed, flight())
        elif deed == "put":
            yield (deed, bag, any_of(["f", "g", None], ["h", "none"]), belt())
        elif deed == "read":
            yield (deed, bag, flight())
        elif deed == "turn":
            yield (deed,)
        elif chance.random() < 0.2:
            yield ("stop", belt())
        else:
            yield ("start", belt())


def some_halls(seed, count):
    """Houses, small ones and one at the bounds, each with rounds and deeds."""
    houses = [*small_houses(seed, count, 4), *meeting_houses(seed, count), *[house_at_the_bounds()] * (count // 8)]
    for number, house in enumerate(houses):
        yield (house, number % 4, list(some_deeds(seed + number, house, 150)))
