"""What the tests hold the program against: the document's words done plainly, without the program.

Here are houses to try as well. Nothing here draws from the package.
"""

import functools
import itertools
import random


def plain_belt(house, name):
    return next(belt for belt in house[0] if belt[0] == name)


def plain_steps(house, place):
    name, cell = place
    belt, long, ring, outs = plain_belt(house, name)
    if cell < long - 1:
        return [(name, cell + 1)]
    told = []
    for out in outs:
        told.append(out if out in house[1] else (out, 0))
    return told + ([(name, 0)] if ring else [])


def plain_far(house, place, cart):
    """Turn by turn all the places in which the bag can be."""
    now, seen, turns = {place}, {place}, 0
    while now:
        turns += 1
        reach = {goal for here in now for goal in plain_steps(house, here)}
        if cart in reach:
            return turns
        now = {goal for goal in reach if isinstance(goal, tuple)} - seen
        seen |= now
    return None


def all_places(house):
    return [(belt[0], cell) for belt in house[0] for cell in range(belt[1])]


def all_ways(house, place, cart, turns):
    """Every way by turns of at most so many turns."""
    if turns == 0:
        return []
    told = []
    for goal in plain_steps(house, place) + [place]:
        if goal == cart:
            told.append([place, cart])
        elif isinstance(goal, tuple):
            told += [[place] + behind for behind in all_ways(house, goal, cart, turns - 1)]
    return told


def apart(ways):
    """Whether at no moment two of the ways have the same place, two by two and moment by moment."""
    for one, other in itertools.combinations(ways, 2):
        for here, there in zip(one, other):
            if isinstance(here, tuple) and here == there:
                return False
    return True


def is_cut(house, places, cart, turns, cut):
    """Every way by turns is at one of the spots."""
    for place in places:
        for told in all_ways(house, place, cart, turns):
            spots = [(here[0], here[1], moment) for moment, here in enumerate(told[:-1])]
            if not any(spot in cut for spot in spots):
                return False
    return True


def most_by_ways(house, places, cart, turns):
    """As many as can be of all ways, tried one place after the other."""
    lists = [all_ways(house, place, cart, turns) for place in places]

    def most(k, chosen):
        if k == len(lists):
            return len(chosen)
        best = most(k + 1, chosen)
        for told in lists[k]:
            if best == len(lists) - k + len(chosen):
                break
            if apart(chosen + [told]):
                best = max(best, most(k + 1, chosen + [told]))
        return best

    return most(0, [])


def most_by_moments(house, places, cart, turns):
    """As many as can be of all that can stand in the house at each moment; for more places than most_by_ways."""
    @functools.lru_cache(None)
    def all_there(bags, left):
        if not bags:
            return True
        if left == 0:
            return False
        goals = [plain_steps(house, place) + [place] for place in bags]
        for choice in itertools.product(*goals):
            kept = [goal for goal in choice if isinstance(goal, tuple)]
            if any(isinstance(goal, str) and goal != cart for goal in choice) or len(set(kept)) < len(kept):
                continue
            if all_there(tuple(sorted(kept)), left - 1):
                return True
        return False

    for count in range(len(places), 0, -1):
        if any(all_there(tuple(sorted(some)), turns) for some in itertools.combinations(places, count)):
            return count
    return 0


def ordinary_house():
    """Belts that meet, a ring, ways of unlike length; the cart rome can be come to from nowhere."""
    belts = [
        ("main", 3, False, ["loop", "side"]),
        ("loop", 4, True, ["paris", "side"]),
        ("side", 1, False, ["oslo", "hand"]),
    ]
    return (belts, ["hand", "paris", "oslo", "rome"])


def house_at_the_bounds():
    """Six belts, thirty cells, five carts, two rings."""
    belts = [
        ("north", 6, False, ["loop", "cross"]),
        ("south", 5, False, ["cross", "loop"]),
        ("loop", 8, True, ["oslo", "back", "end"]),
        ("cross", 3, False, ["back", "paris"]),
        ("back", 5, True, ["rome", "end", "paris"]),
        ("end", 3, False, ["hand", "oslo", "lima"]),
    ]
    return (belts, ["hand", "oslo", "paris", "rome", "lima"])


def small_houses(seed, count, most_cells=3):
    """Houses that fit, unlike in all that a house may be unlike in; the same ones for the same seed."""
    chance = random.Random(seed)
    for k in range(count):
        names = ["a", "b", "c", "d"][:chance.randint(1, 4)]
        carts = ["hand", "oslo", "paris"][:chance.randint(1, 3)]
        belts = []
        for number, name in enumerate(names):
            ring = chance.random() < 0.4
            behind = names[number + 1:]
            # From the last belt the hand is come to, and from each other one a belt behind it or the hand.
            outs = [chance.choice(behind + ["hand"])]
            for out in behind + carts:
                if out not in outs and chance.random() < 0.4:
                    outs.append(out)
            chance.shuffle(outs)
            belts.append((name, chance.randint(2 if ring else 1, most_cells), ring, outs))
        yield (belts, carts)


def meeting_houses(seed, count):
    """Houses of short belts, some of them rings, that all have to go over one or two at the end."""
    chance = random.Random(seed)
    for k in range(count):
        front = ["a", "b", "c", "d"][:chance.randint(2, 4)]
        back = ["y", "z"][:chance.randint(1, 2)]
        belts = []
        for number, name in enumerate(front):
            ring = chance.random() < 0.3
            behind = front[number + 1:] + back
            outs = list(dict.fromkeys([chance.choice(behind), chance.choice(back)]))
            chance.shuffle(outs)
            belts.append((name, chance.randint(2 if ring else 1, 2), ring, outs))
        for name in back:
            ring = chance.random() < 0.3
            belts.append((name, chance.randint(2 if ring else 1, 3), ring, ["hand", "oslo"]))
        yield (belts, ["hand", "oslo"])


def some_places(seed, house, most):
    chance = random.Random(seed)
    places = all_places(house)
    return chance.sample(places, min(len(places), chance.randint(0, most)))
