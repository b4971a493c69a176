"""Ways by turns: what is one, which go together, and whether a list of spots cuts them all."""

from carry.ways import moves


def goes(house, place, cart, told):
    if len(told) < 2 or told[0] != place or told[-1] != cart:
        return False
    for here, there in zip(told, told[1:]):
        # A cart ahead of the end is no place to go on from.
        if not isinstance(here, tuple) or there not in moves(house, here):
            return False
    return True


def together(ways):
    taken = {}
    for told in ways:
        # The end is left out: on a cart there is room for all.
        for moment, place in enumerate(told[:-1]):
            spot = (place[0], place[1], moment)
            if spot in taken:
                return False
            taken[spot] = True
    return True


def cuts(house, places, cart, turns, cut):
    shut = {}
    for spot in cut:
        shut[spot] = True
    now = passed(places, 0, shut)
    for moment in range(turns):
        reach = {}
        for place in now:
            for goal in moves(house, place):
                reach[goal] = True
        if cart in reach:
            return False
        now = passed(reach, moment + 1, shut)
    return True


def passed(goals, moment, shut):
    # Carts fall out here: nothing goes on from them.
    return [goal for goal in goals if isinstance(goal, tuple) and (goal[0], goal[1], moment) not in shut]
