"""Which of two things goes ahead by an order, and whether it is one for some things."""

from ordertext.orders.telling import telling
from ordertext.things.fractions import compared


def looked(order, book, first, second):
    def field_told(field):
        place = book.index(field)
        return by_size(compared(first[place], second[place]), 0)

    def mark_told(word, field, number):
        place = book.index(field)
        return (mark_holds(word, first[place], number), mark_holds(word, second[place], number))

    return telling(order, field_told, mark_told)


def by_size(one, other):
    if one < other:
        return "ahead"
    return "behind" if one > other else "like"


def mark_holds(word, value, number):
    if word == "under":
        return compared(value, number) < 0
    return compared(value, number) == 0


def is_order(order, book, things):
    apart = list(each_once(things))
    rows = [looks_of(order, book, one, apart) for one in apart]
    # An order for these things tells of each two what their ranks tell, how many
    # are ahead of each; and what ranks tell is an order: so no three need be tried.
    ranks = [row.count("behind") for row in rows]
    for row, rank in zip(rows, ranks):
        if row != [by_size(rank, other) for other in ranks]:
            return False
    return True


def each_once(things):
    kept = {}
    for thing in things:
        kept[thing] = True
    return kept


def looks_of(order, book, one, things):
    return [looked(order, book, one, other) for other in things]
