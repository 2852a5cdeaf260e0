"""Things above one another by all of some orders: fronts, and a chain that shows that no fewer parts do."""

from ordertext.orders.looks import looked
from ordertext.rows.places import are_places, cover
from ordertext.rows.sorts import turned


def stands_above(orders, book, one, other):
    is_ahead = False
    for order in orders:
        look = looked(order, book, one, other)
        if look == "behind":
            return False
        is_ahead = is_ahead or look == "ahead"
    return is_ahead


def fronts(orders, book, row):
    above = [places_above(orders, book, row, thing) for thing in row]
    front_of = {}
    # What is above a thing has fewer things above it, so it comes ahead of it here.
    for place in sorted(range(len(row)), key=lambda place: len(above[place])):
        front_of[place] = max([front_of[other] + 1 for other in above[place]], default=0)
    told = []
    for place in range(len(row)):
        while len(told) <= front_of[place]:
            told.append([])
        told[front_of[place]].append(place)
    return (tuple([tuple(front) for front in told]), chain_in(told, above))


def places_above(orders, book, row, thing):
    return [place for place, other in enumerate(row) if stands_above(orders, book, other, thing)]


def chain_in(told, above):
    chain = []
    for front in reversed(told):
        # Of a thing of a front one of the front ahead is above it.
        chain.append([place for place in front if chain == [] or place in above[chain[-1]]][0])
    return tuple(reversed(chain))


def fronts_shown(orders, book, row, parts, chain):
    if len(parts) != len(chain) or () in parts:
        return False
    if not cover(parts, len(row)) or not are_places(chain, len(row)):
        return False
    if not all([stands_above(orders, book, row[one], row[other]) for one, other in zip(chain, chain[1:])]):
        return False
    return all([none_above_another(orders, book, turned(row, part)) for part in parts])


def none_above_another(orders, book, things):
    return all([places_above(orders, book, things, thing) == [] for thing in things])
