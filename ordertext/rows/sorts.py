"""Rows of things put in order, and how far they are from it."""

from ordertext.errors import NoRow
from ordertext.orders.looks import each_once, ranks_in, table_of, three_against
from ordertext.things.halving import many_ahead


def turning(order, book, row):
    ranks = ranks_of(order, book, row)
    return tuple(sorted(range(len(row)), key=lambda place: ranks[place]))


# For each place how many unlike things of the row go ahead of its own; or NoRow.
def ranks_of(order, book, row):
    apart = each_once(row)
    table = table_of(order, book, apart)
    three = three_against(table)
    if three is not None:
        raise NoRow(tuple([apart[place] for place in three]))
    ranks = {}
    for thing, rank in zip(apart, ranks_in(table)):
        ranks[thing] = rank
    return [ranks[thing] for thing in row]


def back(turn):
    places = [0] * len(turn)
    for place, start in enumerate(turn):
        places[start] = place
    return tuple(places)


def turned(row, turn):
    return tuple([row[place] for place in turn])


def crossed(order, book, row):
    many = 0
    # The ranks so far, rising: halving finds how many of them are greater.
    rising = []
    for rank in ranks_of(order, book, row):
        place = many_ahead(len(rising), lambda spot: rising[spot] <= rank)
        many = many + len(rising) - place
        rising.insert(place, rank)
    return many
