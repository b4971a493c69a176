"""The desk: a hall that is told deeds and asked by lines, and answers each by a text."""

from carry.errors import NoDeed, NoOut
from carry.halls import Hall
from carry.housetexts import is_number, read_house, shown_house
from carry.intime import in_time
from carry.turns import turn

# The lines, word by word: behind the first word, what each other one has to be.
FORMS = (
    ("flight", "name", "name", "number"),
    ("change", "name", "number"),
    ("off", "name"),
    ("put", "name", "name"),
    ("put", "name", "name", "name"),
    ("read", "name", "name"),
    ("stop", "name"),
    ("start", "name"),
    ("turn", "count"),
    ("where", "name"),
    ("late",),
    ("why",),
    ("best", "name", "limit"),
    ("house",),
)
MOST_COUNT = 40
MOST_LIMIT = 12
NONE = "none"


class Desk:
    def __init__(self, text, rounds):
        self.hall = Hall(read_house(text), rounds)
        # The last turn's log.
        self.log = []

    def say(self, line):
        words = line.split(" ")
        if not any([has_form(words, form) for form in FORMS]):
            raise NoDeed("the line is none that a desk knows")
        if words[0] in ("turn", "where", "late", "why", "best", "house"):
            return self.told(words)
        if words[0] in ("flight", "change", "off"):
            self.tell_flight(words)
        else:
            self.tell_bag_or_belt(words)
        return "ok"

    def tell_flight(self, words):
        if words[0] == "flight":
            self.hall.flight(words[1], words[2], int(words[3]))
        elif words[0] == "change":
            self.hall.change(words[1], int(words[2]))
        else:
            self.hall.call_off(words[1])

    def tell_bag_or_belt(self, words):
        if words[0] == "put":
            self.hall.put(words[1], words[3] if len(words) > 3 else None, words[2])
        elif words[0] == "read":
            self.hall.read(words[1], words[2])
        elif words[0] == "stop":
            self.hall.stop(words[1])
        else:
            self.hall.start(words[1])

    def told(self, words):
        if words[0] == "turn":
            return self.run(int(words[1]))
        if words[0] == "where":
            return shown_where(self.hall.where(words[1]))
        if words[0] == "late":
            return listed(" ", self.hall.late())
        if words[0] == "why":
            return listed(", ", [shown_why(told[0], told[3]) for told in self.log if told[3] is not None])
        if words[0] == "best":
            return self.best(words[1], int(words[2]))
        return shown_house(self.hall.house()).replace("\n", ", ")

    def run(self, count):
        for k in range(count):
            self.log = turn(self.hall)
        moment = self.hall.moment()
        inside = len(self.hall.bags())
        gone = len(self.hall.out())
        return f"{moment} {inside} {gone}"

    def best(self, cart, limit):
        house = self.hall.house()
        if cart not in house[1]:
            raise NoOut("no cart is called so")
        places = [told[2] for told in self.hall.bags() if self.hall.cart_of(told[0]) == cart]
        return str(len(in_time(house, places, cart, limit)[0]))


def has_form(words, form):
    if len(words) != len(form) or words[0] != form[0]:
        return False
    return all([has_kind(word, kind) for word, kind in zip(words[1:], form[1:])])


def has_kind(word, kind):
    if kind == "name":
        return word != ""
    if not is_number(word):
        return False
    if kind == "count":
        return 1 <= int(word) <= MOST_COUNT
    if kind == "limit":
        return int(word) <= MOST_LIMIT
    return True


def shown_where(there):
    if isinstance(there, tuple):
        return " ".join([there[0], str(there[1])])
    return there


def shown_why(bag, why):
    return " ".join([bag, why[0], why[1]])


def listed(between, texts):
    # A list without texts is told by a word of its own.
    if not texts:
        return NONE
    return between.join(texts)
