"""A list of things that is kept in order."""

from ordertext.errors import NoPlace
from ordertext.rows.counted import Looks
from ordertext.things.halving import many_ahead


class Kept:
    def __init__(self, order, book):
        self.order = order
        self.book = book
        self.things = []
        self.last_looks = 0

    def put(self, thing):
        place = self.counted(((thing, ("ahead", "like")),))[0]
        self.things.insert(place, thing)
        return place

    def take(self, place):
        self.check(place)
        return self.things.pop(place)

    def many(self):
        return len(self.things)

    def at(self, place):
        self.check(place)
        return self.things[place]

    def counts(self, thing):
        found = self.counted(((thing, ("ahead",)), (thing, ("ahead", "like"))))
        return (found[0], found[1] - found[0])

    def part(self, first, last):
        # A place below 0 would be counted from the end.
        return tuple(self.things[max(first, 0):max(last, 0)])

    def between(self, one, other):
        # Where the one is behind the other, the first count is no less than the second.
        found = self.counted(((one, ("ahead",)), (other, ("ahead", "like"))))
        return tuple(self.things[found[0]:found[1]])

    def looks(self):
        return self.last_looks

    def check(self, place):
        if not 0 <= place < len(self.things):
            raise NoPlace("there is no such place")

    # For each thing and some looks how many kept ones look so at it. These come first in
    # the list, so halving finds how many.
    def counted(self, asked):
        looks = Looks(self.order, self.book)
        found = []
        for thing, ways in asked:
            found.append(many_ahead(len(self.things), lambda place: looks.look(self.things[place], thing) in ways))
        self.last_looks = looks.taken
        return found
