"""In time: as many ways by turns to a cart as can be, and a cut that shows that there can be no more.

Spots (belt, cell, moment) are the gates of a net, through each of which one bag can go. What flows through
the net are the ways; where it is shut, when no more can flow, is the cut: as many gates as there are ways.
"""

from carry.flows import fill, lay
from carry.ways import moves

START = "the start"
END = "the end"


def in_time(house, places, cart, turns):
    net = {START: {}}
    spots = lay_net(net, house, places, cart, turns)
    near = fill(net, START, END)
    ways = []
    for k, place in enumerate(places):
        first = into(place, 0)
        if net[first][START] > 0:
            ways.append((k, followed(net, first, cart)))
    cut = [spot for spot in spots if (spot, "into") in near and (spot, "out of") not in near]
    return (ways, cut)


def into(place, moment):
    return ((place[0], place[1], moment), "into")


def lay_net(net, house, places, cart, turns):
    # More than can ever flow: so only gates can be shut, never what lies between them.
    plenty = len(places) + 1
    spots = []
    now = places
    for place in places:
        lay(net, START, into(place, 0), plenty)
    for moment in range(turns):
        reach = {}
        for place in now:
            spots.append((place[0], place[1], moment))
            for goal in lay_spot(net, house, place, moment, cart, plenty):
                reach[goal] = True
        now = list(reach)
    return spots


def lay_spot(net, house, place, moment, cart, plenty):
    # Told are the places to which one may go on from this spot.
    gate = into(place, moment)
    behind = (gate[0], "out of")
    lay(net, gate, behind, 1)
    goals = moves(house, place)
    if cart in goals:
        lay(net, behind, END, plenty)
    places = [goal for goal in goals if isinstance(goal, tuple)]
    for goal in places:
        lay(net, behind, into(goal, moment + 1), plenty)
    return places


def followed(net, first, cart):
    told = []
    gate = first
    while gate != END:
        spot = gate[0]
        told.append((spot[0], spot[1]))
        gate = taken(net, (spot, "out of"))
    return told + [cart]


def taken(net, behind):
    # Just one: a gate lets one through. From there back into the gate itself nothing is told as gone,
    # as the gate has no room any more.
    went = [there for there in net[behind] if net[there][behind] > 0]
    return went[0]
