"""Which of two things goes ahead by an order, and whether it is one for some things."""

from ordertext.orders.telling import answer, telling
from ordertext.things.fractions import how_stands


def looked(order, book, first, second):
    def by_field(word, field):
        place = book.index(field)
        return answer(word, how_stands(first[place], second[place]))

    def by_mark(word, field, number):
        place = book.index(field)
        return [answer(word, how_stands(thing[place], number)) for thing in (first, second)]

    return telling(order, by_field, by_mark)


def is_order(order, book, things):
    return looks_agree(table_of(order, book, each_once(things)))


def each_once(things):
    kept = {}
    for thing in things:
        kept[thing] = True
    return list(kept)


def table_of(order, book, things):
    return [looks_of(order, book, one, things) for one in things]


def looks_of(order, book, one, things):
    return [looked(order, book, one, other) for other in things]


def looks_agree(table):
    return against_ranks(table) is None


# The first two whose look is not what their ranks tell, how many are ahead of each. An
# order for some things tells of each two what ranks tell; and what ranks tell is an
# order: so no three need be tried.
def against_ranks(table):
    ranks = ranks_in(table)
    for one, row in enumerate(table):
        for other, look in enumerate(row):
            if look != by_size(ranks[one], ranks[other]):
                return (one, other)
    return None


# The places of three of the table's things for which it tells no order, or None.
def three_against(table):
    pair = against_ranks(table)
    if pair is None:
        return None
    # Where the one is ahead of the other or like it, but has not fewer, or not as many,
    # ahead of it, some third is ahead of one of the two alone, and so against them.
    for third in range(len(table)):
        three = (pair[0], pair[1], third)
        if not looks_agree([picked_out(table[place], three) for place in three]):
            return three
    return None


def picked_out(row, places):
    return [row[place] for place in places]


def ranks_in(table):
    return [row.count("behind") for row in table]


def by_size(one, other):
    if one < other:
        return "ahead"
    return "behind" if one > other else "like"
