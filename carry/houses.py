"""Houses: whether one fits, its belts, and what can be come to from a belt."""

from carry.errors import NoHand, NoName, NoOut, NoSize
from carry.names import is_name

# The words of refusals never show what was handed in as a name or an out:
# it may be any thing there, also one that Python refuses to write as a text.


def right_house(house):
    belts = house[0]
    carts = house[1]
    taken = {}
    check_carts(carts, taken)
    check_belts(belts, taken)
    check_outs(belts, carts)
    check_hand(house)
    return True


def check_carts(carts, taken):
    for cart in carts:
        take_name(cart, taken)
    if not carts:
        raise NoHand("a house has a cart at least, the hand")


def check_belts(belts, taken):
    for name, long, ring, outs in belts:
        take_name(name, taken)
        least = 2 if ring else 1
        if long < least:
            raise NoSize(f"belt {name} has fewer than {least} cells")


def take_name(name, taken):
    # is_name comes first: what is no name may be a list, which no dict can be asked for.
    if not is_name(name) or name in taken:
        raise NoName("a belt or a cart has no name, or one that is taken")
    taken[name] = True


def check_outs(belts, carts):
    for k, belt in enumerate(belts):
        name = belt[0]
        # Outs that are no list are none: a text or a number has no names to turn a bag to.
        outs = belt[3] if isinstance(belt[3], list) else []
        left = belt_names(belts[k + 1:]) + carts
        for out in outs:
            if out not in left:
                raise NoOut(f"belt {name} has an out that is no cart, no belt behind it, or there twice")
            left.remove(out)
        if not outs:
            raise NoOut(f"belt {name} has no outs")


def check_hand(house):
    hand = house[1][0]
    for name in belt_names(house[0]):
        if hand not in reached(house, name):
            raise NoHand(f"the hand can not be come to from belt {name}")


def belt_names(belts):
    return [belt[0] for belt in belts]


def reached(house, belt):
    found = {}
    # One walk is enough, as the outs of a belt stand behind it in the house.
    for name, long, ring, outs in house[0]:
        if name == belt or name in found:
            for out in outs:
                found[out] = True
    return [name for name in belt_names(house[0]) + house[1] if name in found]


def belt_of(house, name):
    for belt in house[0]:
        if belt[0] == name:
            return (belt[0], belt[1], belt[2], list(belt[3]))
    return None
