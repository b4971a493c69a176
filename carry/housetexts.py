"""Houses as texts: how one is written, and how a text is read."""

from carry.errors import NoLine
from carry.houses import right_house

FIGURES = "0123456789"
MOST_FIGURES = 9


def shown_house(house):
    lines = [shown_belt(belt) for belt in house[0]] + [f"cart {cart}" for cart in house[1]]
    return "\n".join(lines)


def shown_belt(belt):
    first = "ring" if belt[2] else "belt"
    return " ".join([first, belt[0], str(belt[1]), "to"] + belt[3])


def read_house(text):
    belts = []
    carts = []
    for number, line in enumerate(text.split("\n")):
        words = line.split(" ")
        if is_belt_line(words):
            belts.append((words[1], int(words[2]), words[0] == "ring", words[4:]))
        elif is_cart_line(words):
            carts.append(words[1])
        else:
            raise NoLine(number)
    house = (belts, carts)
    right_house(house)
    return house


def is_belt_line(words):
    if len(words) < 5 or "" in words:
        return False
    return words[0] in ("belt", "ring") and is_number(words[2]) and words[3] == "to"


def is_cart_line(words):
    return len(words) == 2 and "" not in words and words[0] == "cart"


def is_number(word):
    if not 1 <= len(word) <= MOST_FIGURES:
        return False
    if word[0] == "0" and word != "0":
        return False
    return all([sign in FIGURES for sign in word])
