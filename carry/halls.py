"""The hall: a house that is run, with its flights, its bags and its stopped belts."""

from carry.errors import NoBag, NoBelt, NoFlight, NoMoment, NoName, NoOut, NoRoom
from carry.houses import belt_names, belt_of, right_house
from carry.names import is_name
from carry.ways import far


class Hall:
    def __init__(self, house, rounds):
        right_house(house)
        self.built = copied(house)
        self.told_rounds = rounds
        self.now = 0
        # By a flight's name its tuple.
        self.book = {}
        self.halts = {}
        # By the names of the bags in the house: the place, the flight or None, and how often it has gone round.
        self.places = {}
        self.readings = {}
        self.rounded = {}
        # The bags that are out, in the order of their coming, and by their names the carts.
        self.gone = []
        self.carted = {}

    def flight(self, name, cart, closing):
        if not is_name(name) or name in self.book:
            raise NoName("a flight has no name, or one that another flight has")
        if cart not in self.built[1][1:]:
            raise NoOut("a flight's cart is none of the house, or the hand")
        check_closing(closing)
        self.book[name] = (name, cart, closing)

    def change(self, name, closing):
        self.check_flight(name)
        check_closing(closing)
        self.book[name] = (name, self.book[name][1], closing)

    def call_off(self, name):
        self.check_flight(name)
        self.book.pop(name)
        # Taken from the bags at once: a later flight of the same name is not theirs.
        for bag in list(self.readings):
            if self.readings[bag] == name:
                self.readings[bag] = None

    def put(self, bag, flight, belt):
        if not is_name(bag) or bag in self.places or bag in self.carted:
            raise NoName("a bag has no name, or one that a bag of this hall has or had")
        if flight is not None:
            self.check_flight(flight)
        self.check_belt(belt)
        place = (belt, 0)
        if place in list(self.places.values()):
            raise NoRoom(f"cell 0 of belt {belt} has a bag")
        self.places[bag] = place
        self.readings[bag] = flight
        self.rounded[bag] = 0

    def read(self, bag, flight):
        self.check_inside(bag)
        self.check_flight(flight)
        self.readings[bag] = flight

    def stop(self, belt):
        self.check_belt(belt)
        self.halts[belt] = True

    def start(self, belt):
        self.check_belt(belt)
        if belt in self.halts:
            self.halts.pop(belt)

    def check_flight(self, name):
        if not is_name(name) or name not in self.book:
            raise NoFlight("no flight is called so")

    def check_belt(self, name):
        if name not in belt_names(self.built[0]):
            raise NoBelt("no belt is called so")

    def check_inside(self, bag):
        if not is_name(bag) or bag not in self.places:
            raise NoBag("no bag in the house is called so")

    def house(self):
        return copied(self.built)

    def rounds(self):
        return self.told_rounds

    def moment(self):
        return self.now

    def flights(self):
        return [self.book[name] for name in sorted(self.book)]

    def stopped(self):
        return [name for name in belt_names(self.built[0]) if name in self.halts]

    def bags(self):
        return [(bag, self.readings[bag], self.places[bag], self.rounded[bag]) for bag in self.in_order()]

    def out(self):
        return list(self.gone)

    def late(self):
        return [bag for bag in self.in_order() if self.readings[bag] is not None and not self.catches(bag)]

    def where(self, bag):
        if is_name(bag) and bag in self.carted:
            return self.carted[bag]
        self.check_inside(bag)
        return self.places[bag]

    def cart_of(self, bag):
        self.check_inside(bag)
        if self.catches(bag):
            return self.book[self.readings[bag]][1]
        return self.built[1][0]

    def catches(self, bag):
        # Whether it has a flight, and can still be on that one's cart in time.
        if self.readings[bag] is None:
            return False
        flight = self.book[self.readings[bag]]
        needed = far(self.built, self.places[bag], flight[1])
        return needed is not None and self.now + needed <= flight[2]

    def in_order(self):
        ranks = belt_names(self.built[0])
        spots = [(ranks.index(place[0]), place[1], bag) for bag, place in self.places.items()]
        return [spot[2] for spot in sorted(spots)]

    def move(self, moves):
        self.now += 1
        for bag, goal in moves:
            if isinstance(goal, tuple):
                self.move_on(bag, goal)
            else:
                self.move_out(bag, goal)

    def move_on(self, bag, goal):
        was = self.places[bag]
        belt = belt_of(self.built, was[0])
        if belt[2] and was == (belt[0], belt[1] - 1) and goal == (belt[0], 0):
            self.rounded[bag] += 1
        self.places[bag] = goal

    def move_out(self, bag, cart):
        self.places.pop(bag)
        self.readings.pop(bag)
        self.rounded.pop(bag)
        self.carted[bag] = cart
        self.gone.append((bag, cart, self.now))


def copied(house):
    belts = [belt_of(house, name) for name in belt_names(house[0])]
    return (belts, list(house[1]))


def check_closing(closing):
    if closing < 0:
        raise NoMoment("a flight closes at a moment from 0 on")
