"""Nets of looks: pairs of places of a row that are put in order one behind the other."""

from ordertext.errors import NoNet
from ordertext.orders.looks import looked


def led(order, book, net, row):
    return tuple(through(net, row, lambda one, other: looked(order, book, one, other) == "behind")[0])


# The row behind the net, and the places in the net of the pairs that exchanged.
def through(net, row, is_behind):
    things = list(row)
    exchanged = []
    for place, pair in enumerate(net):
        one = things[pair[0]]
        other = things[pair[1]]
        if is_behind(one, other):
            things[pair[0]] = other
            things[pair[1]] = one
            exchanged.append(place)
    return (things, exchanged)


def beats(net, many):
    for row in rows_of_two(many):
        things = through(net, row, is_more)[0]
        if things != sorted(things):
            return row
    return None


def is_more(one, other):
    return one > other


def rows_of_two(many):
    return [row_of_two(number, many) for number in range(1 << many)]


def row_of_two(number, many):
    return tuple([number >> place & 1 for place in range(many - 1, -1, -1)])


def smaller(net, many):
    if beats(net, many) is not None:
        raise NoNet("the net leaves a row out of order")
    exchanging = {}
    for row in rows_of_two(many):
        for place in through(net, row, is_more)[1]:
            exchanging[place] = True
    return tuple([pair for place, pair in enumerate(net) if place in exchanging])


# Batcher's net: rows put in order at every second place, every fourth .. are poured together.
def net_for(many):
    widest = 1
    while 2 * widest < many:
        widest = 2 * widest
    net = []
    step = widest
    while step > 0:
        net.extend(pouring(many, step, widest))
        step = step // 2
    return tuple(net)


def pouring(many, step, widest):
    net = pairs_apart(many, step, step, 0)
    reach = widest
    while reach != step:
        net.extend(pairs_apart(many, reach - step, step, step))
        reach = reach // 2
    return net


def pairs_apart(many, distance, step, which):
    return [(place, place + distance) for place in range(many - distance) if place & step == which]
