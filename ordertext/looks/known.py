"""What is known of few things, no two of them like, and trees of looks at them.

Within, what is known is a tuple with, for each thing, a bit for each thing that it goes ahead of.
"""

from ordertext.errors import Clash


def closed(pairs, many):
    known = bits_of(pairs, many)
    for thing, behind in enumerate(known):
        if behind >> thing & 1:
            raise Clash(f"thing {thing} would go ahead of itself")
    return pairs_of(known)


def bits_of(pairs, many):
    known = (0,) * many
    for one, other in pairs:
        known = with_look(known, one, other)
    return known


def with_look(known, one, other):
    onward = known[other] | 1 << other
    return tuple([
        behind | onward if thing == one or behind >> one & 1 else behind for thing, behind in enumerate(known)
    ])


def pairs_of(known):
    pairs = []
    for one, behind in enumerate(known):
        pairs.extend([(one, other) for other in range(len(known)) if behind >> other & 1])
    return tuple(pairs)


def goes_ahead(known, one, other):
    return known[one] >> other & 1 == 1


def unparted(known):
    pairs = []
    for one in range(len(known)):
        for other in range(one + 1, len(known)):
            if not goes_ahead(known, one, other) and not goes_ahead(known, other, one):
                pairs.append((one, other))
    return pairs


def tree_count(tree, known, many):
    if len(tree) == 0:
        return None
    worst = 0
    # Of each way the knot that it has come to, what is known there, and how many looks it took.
    to_go = [(0, bits_of(known, many), 0)]
    while to_go != []:
        way = to_go.pop()
        knot = tree[way[0]]
        if knot[0] == "told":
            if not leaves_just(way[1], knot[1]):
                return None
            worst = max(worst, way[2])
        else:
            onward = answers(knot, way[1])
            if onward == [] or not all([way[0] < number < len(tree) for number, further in onward]):
                return None
            to_go.extend([(number, further, way[2] + 1) for number, further in onward])
    return worst


# The knots that a look leads to, with what is known then; none where it is no look at two things.
def answers(knot, known):
    one = knot[1]
    other = knot[2]
    if one == other or not 0 <= min(one, other) <= max(one, other) < len(known):
        return []
    if goes_ahead(known, one, other):
        return [(knot[3], known)]
    if goes_ahead(known, other, one):
        return [(knot[4], known)]
    return [(knot[3], with_look(known, one, other)), (knot[4], with_look(known, other, one))]


def leaves_just(known, places):
    if sorted(places) != list(range(len(known))):
        return False
    return all([goes_ahead(known, one, other) for one, other in zip(places, places[1:])])
