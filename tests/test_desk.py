"""Promises 2, 3, 13 and 26: the desk, its lines, their answers and their refusals."""

import unittest

from carry import errors
from carry.desk import Desk
from carry.errors import (CarryError, NoBag, NoBelt, NoDeed, NoFlight, NoHand, NoLine, NoName, NoOut, NoRoom, NoSize)
from carry.intime import in_time
from plain import PlainHall, most_by_moments, ordinary_house, some_halls

TEXT = "belt main 3 to loop side\nring loop 4 to paris side\nbelt side 1 to oslo hand\n" \
       "cart hand\ncart paris\ncart oslo\ncart rome"


class DeskCase(unittest.TestCase):
    def desk(self, *lines, rounds=0, text=TEXT):
        desk = Desk(text, rounds)
        for line in lines:
            self.assertEqual(desk.say(line), "ok", line)
        return desk

    def says(self, desk, *pairs):
        for line, answer in pairs:
            told = desk.say(line)
            self.assertIs(type(told), str)
            self.assertEqual(told, answer, line)

    def all_told(self, desk):
        """What can be asked without changing anything; of bags and flights those that the tests use."""
        told = [desk.say(line) for line in ("late", "why", "house", "best hand 12", "best oslo 12", "best paris 12")]
        for bag in ("a", "b", "c", "none"):
            try:
                told.append(desk.say("where " + bag))
            except NoBag:
                told.append(None)
        return told

    def refuses(self, kind, desk, line):
        before = self.all_told(desk)
        with self.assertRaises(CarryError) as caught:
            desk.say(line)
        self.assertIs(type(caught.exception), kind, line)
        self.assertEqual(self.all_told(desk), before)


class Made(DeskCase):
    def test_of_a_text(self):
        self.says(Desk(TEXT, 0), ("house", TEXT.replace("\n", ", ")), ("late", "none"), ("why", "none"),
                  ("turn 1", "1 0 0"))

    def test_a_text_that_is_refused(self):
        for kind, text in (
            (NoLine, ""), (NoLine, "belt a 1 to"), (NoLine, "belt a 01 to hand\ncart hand"),
            (NoLine, "belt a 1 to hand\n\ncart hand"), (NoLine, "Belt a 1 to hand\ncart hand"),
            (NoHand, "belt a 1 to hand"), (NoName, "belt a 1 to hand\ncart hand\ncart hand"),
            (NoName, "belt A 1 to hand\ncart hand"), (NoSize, "belt a 0 to hand\ncart hand"),
            (NoSize, "ring a 1 to hand\ncart hand"), (NoOut, "belt a 1 to b\ncart hand"),
            (NoHand, "belt a 1 to oslo\ncart hand\ncart oslo"),
        ):
            with self.assertRaises(CarryError) as caught:
                Desk(text, 1)
            self.assertIs(type(caught.exception), kind, text)
        with self.assertRaises(NoLine) as caught:
            Desk("belt a 1 to hand\ncart hand\ncart", 1)
        self.assertEqual(caught.exception.line, 2)

    def test_rounds(self):
        for rounds in (0, 1, 3):
            desk = self.desk("put a loop", rounds=rounds)
            turns = 4 * (rounds + 1) + 1
            self.says(desk, (f"turn {turns - 1}", f"{turns - 1} 1 0"), ("where a", "side 0"),
                      ("turn 1", f"{turns} 0 1"), ("where a", "hand"))

    def test_desks_side_by_side(self):
        one, other = Desk(TEXT, 0), Desk(TEXT, 0)
        self.says(one, ("put a main", "ok"), ("stop main", "ok"), ("turn 2", "2 1 0"), ("why", "a stopped main"))
        self.says(other, ("why", "none"), ("put a side", "ok"), ("turn 1", "1 0 1"), ("why", "none"))

    def test_lines_of_a_text_in_another_order(self):
        desk = Desk("cart hand\nbelt b 2 to a oslo\ncart oslo\nring a 2 to hand", 0)
        self.says(desk, ("house", "belt b 2 to a oslo, ring a 2 to hand, cart hand, cart oslo"))


class Deeds(DeskCase):
    def test_ok(self):
        desk = self.desk("flight f oslo 9", "flight g paris 0", "flight h rome 999999999", "change f 10",
                         "change g 999999999", "off h", "put a main", "put b loop f", "read a g", "stop main",
                         "stop main", "start main", "start main", "start side")
        self.says(desk, ("where a", "main 0"), ("where b", "loop 0"))

    def test_flights_and_where_bags_come_to(self):
        desk = self.desk("flight f oslo 9", "flight g paris 100", "put a main f", "put b loop g", "put c side")
        self.says(desk, ("turn 1", "1 2 1"), ("where c", "hand"), ("where a", "main 1"), ("where b", "loop 1"),
                  ("turn 3", "4 0 3"), ("where a", "oslo"), ("where b", "paris"))

    def test_put_takes_the_belt_ahead_of_the_flight(self):
        desk = self.desk("flight loop oslo 9", "put a side loop")
        self.says(desk, ("where a", "side 0"), ("turn 1", "1 0 1"), ("where a", "oslo"))

    def test_change(self):
        desk = self.desk("flight f oslo 4", "put a main f")
        self.says(desk, ("late", "none"), ("change f 3", "ok"), ("late", "a"), ("change f 4", "ok"), ("late", "none"))

    def test_off(self):
        desk = self.desk("flight f oslo 40", "put a main f", "off f")
        self.says(desk, ("flight f oslo 40", "ok"), ("best oslo 12", "0"), ("best hand 12", "1"),
                  ("read a f", "ok"), ("best oslo 12", "1"))

    def test_stop_and_start(self):
        desk = self.desk("put a main", "stop main")
        self.says(desk, ("turn 5", "5 1 0"), ("where a", "main 0"), ("start main", "ok"), ("turn 1", "6 1 0"),
                  ("where a", "main 1"))

    def test_names_that_are_words_of_lines(self):
        desk = self.desk("flight late oslo 9", "put turn main late", "put house loop late", "read turn late",
                         text=TEXT.replace("side", "stop"))
        self.says(desk, ("where turn", "main 0"), ("stop stop", "ok"), ("start stop", "ok"), ("late", "none"),
                  ("off late", "ok"))


class Turns(DeskCase):
    def test_one_and_forty(self):
        desk = self.desk("put a main")
        self.says(desk, ("turn 1", "1 1 0"), ("turn 40", "41 0 1"), ("turn 9", "50 0 1"), ("turn 10", "60 0 1"))

    def test_as_many_turns_one_by_one(self):
        one, other = self.desk("put a main", "put b loop"), self.desk("put a main", "put b loop")
        for k in range(3):
            one.say("turn 1")
        self.assertEqual(other.say("turn 3"), "3 2 0")
        self.assertEqual(self.all_told(one), self.all_told(other))

    def test_beyond(self):
        desk = self.desk("put a main")
        for line in ("turn 0", "turn 41", "turn 400", "turn 999999999", "turn 1000000001"):
            self.refuses(NoDeed, desk, line)
        self.says(desk, ("turn 1", "1 1 0"))


class Late(DeskCase):
    def test_none(self):
        self.says(self.desk(), ("late", "none"))
        self.says(self.desk("flight f oslo 4", "put a main f", "put b side"), ("late", "none"))

    def test_several_in_the_order_of_belts_and_cells(self):
        desk = self.desk("flight f rome 9", "flight g paris 5", "put z side f", "put b loop f", "put c main g")
        self.says(desk, ("late", "c b z"))

    def test_one_called_none(self):
        self.says(self.desk("flight f rome 9", "put none main f"), ("late", "none"))
        self.says(self.desk("flight f rome 9", "put none main f", "put a loop f"), ("late", "none a"))


class Why(DeskCase):
    def test_none(self):
        desk = self.desk("put a main")
        self.says(desk, ("why", "none"), ("turn 1", "1 1 0"), ("why", "none"))

    def test_all_three(self):
        text = "belt a 1 to c\nbelt b 2 to c\nring c 2 to d\nbelt d 1 to hand\ncart hand"
        desk = self.desk("put p b", text=text)
        desk.say("turn 1")
        self.assertEqual(desk.say("put q a"), "ok")
        desk.say("put r b")
        desk.say("stop d")
        desk.say("put s d")
        desk.say("turn 1")
        self.says(desk, ("why", "r behind p, p yields q, s stopped d"))

    def test_whatever_came_since(self):
        desk = self.desk("flight f oslo 90", "put a main", "stop main")
        self.says(desk, ("turn 1", "1 1 0"), ("why", "a stopped main"), ("start main", "ok"),
                  ("read a f", "ok"), ("put b side f", "ok"), ("off f", "ok"), ("late", "none"), ("where b", "side 0"),
                  ("why", "a stopped main"))
        self.refuses(NoDeed, desk, "turn 0")
        self.refuses(NoBelt, desk, "stop nowhere")
        self.says(desk, ("why", "a stopped main"), ("turn 1", "2 1 1"), ("why", "none"))

    def test_the_last_turn_of_several(self):
        text = "belt a 1 to c\nbelt b 1 to c\nbelt c 2 to hand\ncart hand"
        desk = self.desk("put p a", "put q b", text=text)
        self.says(desk, ("turn 1", "1 2 0"), ("why", "q yields p"), ("turn 1", "2 2 0"), ("why", "none"))
        desk = self.desk("put p a", "put q b", text=text)
        self.says(desk, ("turn 2", "2 2 0"), ("why", "none"))

    def test_the_bags_of_the_last_turn_though_none_is_in_now(self):
        desk = self.desk("put a side", "stop side")
        self.says(desk, ("turn 40", "40 1 0"), ("why", "a stopped side"), ("start side", "ok"), ("turn 1", "41 0 1"),
                  ("why", "none"), ("turn 1", "42 0 1"), ("why", "none"))


class Best(DeskCase):
    def test_no_bags(self):
        desk = self.desk()
        for cart in ("hand", "paris", "oslo", "rome"):
            self.says(desk, (f"best {cart} 0", "0"), (f"best {cart} 12", "0"))

    def test_by_turns(self):
        desk = self.desk("flight f oslo 100", "put a main f", "put b loop f", "put c side f")
        for turns, count in ((0, 0), (1, 1), (2, 1), (3, 1), (4, 2), (5, 3), (12, 3)):
            self.says(desk, (f"best oslo {turns}", str(count)), (f"best hand {turns}", "0"))

    def test_only_bags_that_have_this_cart_by_now(self):
        desk = self.desk("flight f oslo 100", "flight g oslo 4", "put a loop f", "put b side", "put c main g")
        self.says(desk, ("best oslo 12", "2"), ("best hand 12", "1"), ("best hand 0", "0"), ("change g 3", "ok"),
                  ("best oslo 12", "1"), ("best hand 12", "2"), ("best paris 12", "0"))

    def test_others_are_as_if_they_were_not_there(self):
        desk = self.desk("flight f oslo 100", "put b side", "put a main f", "stop main", "stop side")
        self.says(desk, ("best oslo 4", "1"), ("best oslo 3", "0"))

    def test_no_out(self):
        desk = self.desk("put a main")
        for cart in ("main", "lima", "a", "Oslo", "o", "9"):
            self.refuses(NoOut, desk, f"best {cart} 0")
            self.refuses(NoOut, desk, f"best {cart} 12")
            self.refuses(NoDeed, desk, f"best {cart} 13")

    def test_beyond(self):
        desk = self.desk("put a main")
        for turns in ("13", "40", "-1", "00", "012", "999999999", "1000000000", "", "x"):
            self.refuses(NoDeed, desk, "best oslo " + turns)

    def test_eight_bags(self):
        text = "belt a 4 to c\nbelt b 4 to c\nbelt c 1 to hand oslo\ncart hand\ncart oslo"
        desk = self.desk("flight f oslo 200", "stop c", text=text)
        for k in range(4):
            desk.say(f"put {'pqrs'[k]} a f")
            desk.say(f"put {'tuvw'[k]} b f")
            desk.say("turn 1")
        self.says(desk, *[(f"best oslo {turns}", str(max(0, min(turns - 1, 8)))) for turns in range(13)])


class NoDeeds(DeskCase):
    RIGHT = ["flight g oslo 9", "change f 9", "off f", "put b main", "put b main f", "read a f", "stop main",
             "start main", "turn 1", "where a", "late", "why", "best oslo 9", "house"]

    def busy(self):
        desk = self.desk("flight f oslo 100", "put a loop f", "put c side")
        desk.say("turn 1")
        return desk

    def test_the_right_ones_are_right(self):
        for line in self.RIGHT:
            self.busy().say(line)

    def test_words_too_few_or_too_many(self):
        for line in self.RIGHT:
            words = line.split(" ")
            desk = self.busy()
            self.refuses(NoDeed, desk, line + " x" if line != "put b main" else "put b main f x")
            self.refuses(NoDeed, desk, line + " 9 9 9")
            if len(words) > 1 and line != "put b main f":
                self.refuses(NoDeed, desk, " ".join(words[:-1]))
            if len(words) > 1:
                self.refuses(NoDeed, desk, words[0])

    def test_blanks_doubled_ahead_or_behind(self):
        for line in self.RIGHT:
            desk = self.busy()
            self.refuses(NoDeed, desk, " " + line)
            self.refuses(NoDeed, desk, line + " ")
            words = line.split(" ")
            for k in range(1, len(words)):
                self.refuses(NoDeed, desk, " ".join(words[:k]) + "  " + " ".join(words[k:]))
                self.refuses(NoDeed, desk, " ".join(words[:k] + [""] + words[k + 1:]))

    def test_parted_otherwise(self):
        for line in self.RIGHT:
            if " " in line:
                for sign in ("\t", "\n", ",", "\u00a0", ""):
                    self.refuses(NoDeed, self.busy(), line.replace(" ", sign))
        for line in ("late\n", "why\t", "house\n", "\nlate", "turn 1\n", "turn\t1"):
            self.refuses(NoDeed, self.busy(), line)

    def test_numbers_written_otherwise(self):
        desk = self.busy()
        for number in ("-1", "+1", "01", "00", "1.0", "1_0", "x", "1x", "0x1", "1000000000", "0000000001", "\u0661",
                       "\u00b2", "1,", "one", "9999999999"):
            for line in ("flight g oslo ", "change f ", "turn ", "best oslo "):
                self.refuses(NoDeed, desk, line + number)
        self.says(desk, ("flight g oslo 0", "ok"), ("flight h oslo 999999999", "ok"), ("change g 999999999", "ok"),
                  ("change g 0", "ok"))

    def test_an_unknown_first_word(self):
        desk = self.busy()
        for line in ("", " ", "  ", "x", "Late", "LATE", "lates", "lat", "turns 1", "call_off f", "call off f",
                     "move a", "bags", "flights", "moment", "none", "ok", "9", "puts b main", "Put b main", "wanted",
                     "\n", "\u00e4"):
            self.refuses(NoDeed, desk, line)

    def test_ahead_of_all_others(self):
        desk = self.busy()
        for line in ("flight f hand -1", "flight A hand x", "change nof -1", "put a nowhere nof x", "put a loop f ",
                     "read nobag nof x", "stop nowhere x", "where nobag x", "best nocart 13", "off nof x", "turn",
                     "flight F lima 1000000000", "put A  main"):
            self.refuses(NoDeed, desk, line)

    def test_names_are_any_words_there(self):
        # So what is wrong about them is for the hall to refuse.
        desk = self.busy()
        for line, kind in (
            ("flight F oslo 9", NoName), ("flight 9 oslo 9", NoName), ("flight toolongname oslo 9", NoName),
            ("flight \u00e4 oslo 9", NoName), ("flight g\t oslo 9", NoName), ("flight g Oslo 9", NoOut),
            ("change 9 9", NoFlight), ("off F!", NoFlight), ("put B main", NoName), ("put b, main", NoName),
            ("put b Main", NoBelt), ("put b main F", NoFlight), ("put b main None", NoFlight), ("read A f", NoBag),
            ("read a None", NoFlight), ("stop MAIN", NoBelt), ("start 9", NoBelt), ("where A", NoBag),
            ("best OSLO 9", NoOut), ("where a\n", NoBag), ("stop main\n", NoBelt), ("put b\n main", NoName),
        ):
            self.refuses(kind, desk, line)


class Refusals(DeskCase):
    def test_as_the_hall_refuses_in_its_order(self):
        desk = self.desk("flight f oslo 100", "put a main f", "put b side")
        desk.say("turn 1")
        desk.say("put c main")
        for line, kind in (
            ("flight f hand 9", NoName), ("flight f oslo 9", NoName), ("flight g hand 9", NoOut),
            ("flight g main 9", NoOut), ("change g 9", NoFlight), ("off g", NoFlight),
            ("put a nowhere nof", NoName), ("put b side", NoName), ("put d nowhere nof", NoFlight),
            ("put d main nof", NoFlight), ("put d nowhere f", NoBelt), ("put d nowhere", NoBelt),
            ("put d oslo", NoBelt), ("put d main f", NoRoom), ("put d main", NoRoom), ("read d nof", NoBag),
            ("read b f", NoBag), ("read a nof", NoFlight), ("stop oslo", NoBelt),
            ("start nowhere", NoBelt), ("where d", NoBag),
        ):
            self.refuses(kind, desk, line)
        self.says(desk, ("put d side", "ok"), ("turn 1", "2 2 2"))

    def test_what_is_refused_is_no_turn(self):
        desk = self.desk("put a main")
        for line in ("turn 0", "turn 41", "turn 1 1", "put a main", "put b main", "nothing"):
            with self.assertRaises(CarryError):
                desk.say(line)
        self.says(desk, ("turn 1", "1 1 0"), ("where a", "main 1"))


class House(DeskCase):
    def test_the_houses_text(self):
        for text in (TEXT, "belt a 1 to hand\ncart hand", "cart hand",
                     "ring a 30 to hand oslo\ncart hand\ncart oslo"):
            self.says(Desk(text, 0), ("house", text.replace("\n", ", ")))

    def test_the_same_whatever_was_done(self):
        desk = self.desk("put a main", "stop side")
        desk.say("turn 40")
        self.says(desk, ("house", TEXT.replace("\n", ", ")))


def shown(house):
    lines = [" ".join(["ring" if ring else "belt", name, str(long), "to"] + outs)
             for name, long, ring, outs in house[0]]
    return "\n".join(lines + ["cart " + cart for cart in house[1]])


class Runs(DeskCase):
    def line(self, deed, handed):
        """The line of a hall's deed."""
        if deed == "put":
            bag, flight, belt = handed
            return " ".join(["put", bag, belt] + ([] if flight is None else [flight]))
        return " ".join([{"call_off": "off"}.get(deed, deed)] + [str(one) for one in handed])

    def is_none(self, handed):
        """Whether the line is none at all: by a word without signs, or by a number."""
        return any(one == "" or isinstance(one, int) and one < 0 for one in handed)

    def deeds(self, deeds):
        """Without those whose words would be others in a line."""
        return [told for told in deeds if "bag one" not in told]

    def asked(self, desk, plain, log):
        named = [one["name"] for one in plain.in_order()]
        for bag, there in zip(named + [told[0] for told in plain.out], plain.told()["where"]):
            told = there if isinstance(there, str) else f"{there[0]} {there[1]}"
            self.assertEqual(desk.say("where " + bag), told)
        self.assertEqual(desk.say("late"), " ".join(plain.told()["late"]) or "none")
        whys = [f"{bag} {why[0]} {why[1]}" for bag, was, now, why in log if why]
        self.assertEqual(desk.say("why"), ", ".join(whys) or "none")

    def test_many_lines_against_a_plain_hall(self):
        for number, (house, rounds, deeds) in enumerate(some_halls(51, 24)):
            desk, plain, log = Desk(shown(house), rounds), PlainHall(house, rounds), []
            for k, (deed, *handed) in enumerate(self.deeds(deeds)):
                if deed == "turn":
                    count = k % 4 + 1
                    for j in range(count):
                        log = plain.turn()
                    told = f"{plain.moment} {len(plain.bags)} {len(plain.out)}"
                    self.assertEqual(desk.say(f"turn {count}"), told)
                elif self.is_none(handed):
                    with self.assertRaises(NoDeed):
                        desk.say(self.line(deed, handed))
                else:
                    kind = getattr(plain, deed)(*handed)
                    if kind is None:
                        self.assertEqual(desk.say(self.line(deed, handed)), "ok")
                    else:
                        with self.assertRaises(getattr(errors, kind)):
                            desk.say(self.line(deed, handed))
                self.asked(desk, plain, log)
            self.assertEqual(desk.say("house"), shown(house).replace("\n", ", "))

    def test_best_against_a_plain_search(self):
        asked = []
        for number, (house, rounds, deeds) in enumerate(some_halls(52, 8)):
            desk, plain = Desk(shown(house), rounds), PlainHall(house, rounds)
            for k, (deed, *handed) in enumerate(self.deeds(deeds)):
                if deed == "turn":
                    plain.turn()
                    desk.say("turn 1")
                elif not self.is_none(handed) and getattr(plain, deed)(*handed) is None:
                    desk.say(self.line(deed, handed))
                cart, turns = house[1][k % len(house[1])], k % 13
                places = [one["place"] for one in plain.in_order() if plain.cart_now(one) == cart]
                told = desk.say(f"best {cart} {turns}")
                self.assertEqual(told, str(len(in_time(house, places, cart, turns)[0])))
                if len(places) <= 5 and turns <= 6:
                    self.assertEqual(told, str(most_by_moments(house, places, cart, turns)))
                    asked.append(told)
        self.assertTrue(all(asked.count(told) > 5 for told in "0123"), asked)

    def test_the_ordinary_house(self):
        self.assertEqual(shown(ordinary_house()), TEXT)


if __name__ == "__main__":
    unittest.main()
