"""Turns: what each bag in a hall wants, which of them move, and why the others stand."""

from carry.houses import belt_of
from carry.ways import arm


def wanted(hall):
    house = hall.house()
    busy = busy_belts(hall)
    told = []
    for bag, flight, place, gone in hall.bags():
        belt = belt_of(house, place[0])
        if place[1] + 1 < belt[1]:
            goal = (place[0], place[1] + 1)
        elif belt[2] and flight is None and gone < hall.rounds():
            goal = (place[0], 0)
        else:
            goal = off_belt(house, belt, hall.cart_of(bag), busy)
        told.append((bag, goal))
    return told


def busy_belts(hall):
    # Those to which a ring turns off no bag.
    return hall.stopped() + [told[2][0] for told in hall.bags() if told[2][1] == 0]


def off_belt(house, belt, cart, busy):
    out = arm(house, belt[0], cart)
    if out in house[1]:
        return out
    if belt[2] and out in busy:
        return (belt[0], 0)
    return (out, 0)


def turn(hall):
    bags = hall.bags()
    goals = dict(wanted(hall))
    whys = {}
    stand_stopped(bags, goals, hall.stopped(), whys)
    stand_yielding(bags, goals, whys)
    stand_behind(bags, goals, whys)
    log = []
    moves = []
    for bag, flight, place, gone in bags:
        if bag in whys:
            log.append((bag, place, place, whys[bag]))
        else:
            log.append((bag, place, goals[bag], None))
            moves.append((bag, goals[bag]))
    hall.move(moves)
    return log


def stand_stopped(bags, goals, stopped, whys):
    for bag, flight, place, gone in bags:
        goal = goals[bag]
        if place[0] in stopped:
            whys[bag] = ("stopped", place[0])
        elif isinstance(goal, tuple) and goal[0] in stopped:
            whys[bag] = ("stopped", goal[0])


def stand_yielding(bags, goals, whys):
    # Bags that are stopped ask for nothing any more, and on a cart there is room for all.
    asking = [told for told in bags if told[0] not in whys and isinstance(goals[told[0]], tuple)]
    chosen = {}
    # They come in the order of belts: the first one keeps the cell, but for one on that very belt.
    for bag, flight, place, gone in asking:
        goal = goals[bag]
        if goal not in chosen or place[0] == goal[0]:
            chosen[goal] = bag
    for bag, flight, place, gone in asking:
        other = chosen[goals[bag]]
        if other != bag:
            whys[bag] = ("yields", other)


def stand_behind(bags, goals, whys):
    # From those that stand backwards: so bags that each want the next one's cell, round in a ring, move all.
    holder = {}
    for bag, flight, place, gone in bags:
        holder[place] = bag
    grown = True
    while grown:
        grown = False
        for bag in goals:
            other = holder.get(goals[bag])
            if bag not in whys and other in whys:
                whys[bag] = ("behind", other)
                grown = True
