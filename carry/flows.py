"""The most that can flow through a net, one by one from a start to an end, and where it is shut then.

A net is a dict of dicts: net[here][there] is how many can still go from here to there. Between two nodes one
way round is laid at most: so net[there][here], the room to take back what went there, tells how many went.
"""


def lay(net, here, there, room):
    for node in (here, there):
        if node not in net:
            net[node] = {}
    net[here][there] = room
    net[there][here] = 0


def fill(net, start, end):
    # Told is what can be come to from the start when no more can go: the near side of a least cut.
    came = search(net, start)
    while end in came:
        push(net, came, end)
        came = search(net, start)
    return came


def search(net, start):
    # Each node that is come to, with the one it is come to from.
    came = {start: None}
    rim = [start]
    while rim:
        further = []
        for here in rim:
            for there in net[here]:
                if net[here][there] > 0 and there not in came:
                    came[there] = here
                    further.append(there)
        rim = further
    return came


def push(net, came, end):
    there = end
    while came[there] is not None:
        here = came[there]
        net[here][there] -= 1
        net[there][here] += 1
        there = here
