"""Least ways: where one may go at a turn, how far a cart is, and which way leads to it."""

from carry.houses import belt_of


def steps(house, place):
    belt = belt_of(house, place[0])
    if place[1] + 1 < belt[1]:
        return [(place[0], place[1] + 1)]
    told = [out if out in house[1] else (out, 0) for out in belt[3]]
    if belt[2]:
        told.append((place[0], 0))
    return told


def moves(house, place):
    # What one turn can bring: to stand is let everywhere, though it is no step.
    return steps(house, place) + [place]


def far(house, place, cart):
    known = begins(house, cart)
    if place[0] not in known:
        return None
    return known[place[0]] - place[1]


def begins(house, cart):
    # How far the cart is from cell 0 of each belt from which it can be come to, and 0 for itself.
    # Backwards, as the outs of a belt stand behind it in the house; once more round a ring is never less.
    known = {cart: 0}
    for name, long, ring, outs in reversed(house[0]):
        behind = [known[out] for out in outs if out in known]
        if behind:
            known[name] = long + min(behind)
    return known


def way(house, place, cart):
    if far(house, place, cart) is None:
        return None
    told = [place[0]]
    # The arm's out is always one of the least far, so going by it is a least way.
    while told[-1] != cart:
        told.append(arm(house, told[-1], cart))
    return told


def arm(house, belt, cart):
    known = begins(house, cart)
    best = None
    for out in belt_of(house, belt)[3]:
        if out in known and (best is None or known[out] < known[best]):
            best = out
    return best
