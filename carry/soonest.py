"""The soonest: the least number of turns in which bags at some places can all be on a cart together."""

from carry.errors import NoWay
from carry.intime import in_time
from carry.ways import far


def soonest(house, places, cart):
    check_ways(house, places, cart)
    if not places:
        return (0, [], [])
    # In fewer turns than the farthest place needs by itself all of them are never there.
    turns = max([far(house, place, cart) for place in places])
    fewer = in_time(house, places, cart, turns - 1)
    told = in_time(house, places, cart, turns)
    while len(told[0]) < len(places):
        fewer = told
        turns += 1
        told = in_time(house, places, cart, turns)
    # As many spots as ways: so the cut of one turn fewer has fewer of them than there are places.
    return (turns, told[0], fewer[1])


def check_ways(house, places, cart):
    for place in places:
        if far(house, place, cart) is None:
            raise NoWay("from one of the places the cart can never be come to")
