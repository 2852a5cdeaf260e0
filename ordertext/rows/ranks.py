"""The thing at a place in order, and the first so many."""

from ordertext.errors import NoPlace
from ordertext.orders.looks import looked
from ordertext.rows.places import are_places
from ordertext.rows.sorts import turning


def at_place(order, book, row, place):
    if not 0 <= place < len(row):
        raise NoPlace("there is no such place")
    start = turning(order, book, row)[place]
    return (row[start], start)


def first_places(order, book, row, many):
    if not 0 <= many <= len(row):
        raise NoPlace("there are not so many")
    return turning(order, book, row)[:many]


def first_shown(order, book, row, places):
    if not are_places(places, len(row)):
        return False

    def goes_ahead(one, other):
        look = looked(order, book, row[one], row[other])
        return look == "ahead" or (look == "like" and one < other)

    # A place that stands twice does not go ahead of itself, so in order each stands once.
    if not all([goes_ahead(one, other) for one, other in zip(places, places[1:])]):
        return False
    others = [place for place in range(len(row)) if place not in places]
    return places == () or all([goes_ahead(places[-1], other) for other in others])
