"""Which of two things goes ahead by an order, and whether it is one for some things."""

from ordertext.orders.telling import answer, telling
from ordertext.things.fractions import how_stands


def looked(order, book, first, second):
    def by_field(word, field):
        place = book.index(field)
        return answer(word, how_stands(first[place], second[place]))

    def by_mark(word, field, number):
        place = book.index(field)
        return [answer(word, how_stands(thing[place], number)) for thing in (first, second)]

    return telling(order, by_field, by_mark)


def is_order(order, book, things):
    apart = list(each_once(things))
    return looks_agree([looks_of(order, book, one, apart) for one in apart])


def each_once(things):
    kept = {}
    for thing in things:
        kept[thing] = True
    return kept


def looks_of(order, book, one, things):
    return [looked(order, book, one, other) for other in things]


def looks_agree(rows):
    # An order for some things tells of each two what their ranks tell, how many
    # are ahead of each; and what ranks tell is an order: so no three need be tried.
    ranks = ranks_of(rows)
    for row, rank in zip(rows, ranks):
        if row != [by_size(rank, other) for other in ranks]:
            return False
    return True


def ranks_of(rows):
    return [row.count("behind") for row in rows]


def by_size(one, other):
    if one < other:
        return "ahead"
    return "behind" if one > other else "like"
