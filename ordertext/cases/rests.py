"""Looks of which only a part is told: what of them is still open, and of which points it asks."""

from ordertext.orders.telling import ASKED, answer, is_open, put_together, telling


def open_look(order, book, first, second):
    def by_field(word, field):
        place = book.index(field)
        return (word, ("thing", first, place), ("thing", second, place))

    def by_mark(word, field, number):
        place = book.index(field)
        return [(word, ("thing", thing, place), ("number", number)) for thing in (first, second)]

    return telling(order, by_field, by_mark)


def rest_of(look, told):
    if not is_open(look):
        return look
    if look[0] in ASKED:
        how = told.tells(look[1], look[2])
        return look if how is None else answer(look[0], how)
    return put_together(look[0], [rest_of(part, told) for part in look[1:]])


# The pairs of points of which a look asks, first the one that it needs first.
def asks_in(look):
    if not is_open(look):
        return []
    if look[0] in ASKED:
        return [(look[1], look[2])]
    asks = []
    for part in look[1:]:
        asks.extend(asks_in(part))
    return asks


def rests_of(looks, told):
    return tuple([rest_of(look, told) for look in looks])


def asks_in_all(looks):
    asks = []
    for look in looks:
        asks.extend(asks_in(look))
    return asks


def numbers_in(asks):
    numbers = []
    for ask in asks:
        numbers.extend([point[1] for point in ask if point[0] == "number"])
    return numbers
