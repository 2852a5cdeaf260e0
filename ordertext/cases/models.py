"""Things of which facts hold that fit."""

from ordertext.cases.told import THINGS, place_of, places_of
from ordertext.things.fractions import fraction, middle, rising

NOUGHT = (0, 1)


def things_of(told, many):
    values = {}
    for field in range(many):
        for place in lesser_first(told, places_of(field)):
            values[place] = value_at(told, place, values)
    return tuple([thing_of(values, number, many) for number in range(THINGS)])


def thing_of(values, number, many):
    return tuple([values[place_of(("thing", number, field))] for field in range(many)])


def lesser_first(told, places):
    return sorted(places, key=lambda place: sum([told.more[less] >> place & 1 for less in places]))


def value_at(told, place, values):
    low = told.low[place]
    high = told.high[place]
    if low == high and low % 2 == 0:
        return told.number_row[low // 2]
    # What is above all that is less and below the number at its high end leaves
    # room for all that is more: their high ends are not below it.
    below = []
    if low >= 0:
        below.append(told.number_row[low // 2])
    for other in values:
        linked = told.linked(other, place)
        if linked == "same":
            return values[other]
        if linked == "less":
            below.append(values[other])
    above = told.number_row[(high + 1) // 2:]
    return between(rising(below), above)


def between(below, above):
    if below != [] and above != []:
        return middle(below[-1], above[0])
    if below != []:
        return fraction(below[-1][0] + below[-1][1], below[-1][1])
    if above != []:
        return fraction(above[0][0] - above[0][1], above[0][1])
    return NOUGHT
