"""A book of things under numbers, with a list of them for each of some orders."""

from ordertext.errors import NoField, NoThing
from ordertext.orders.looks import looked
from ordertext.things.halving import many_ahead


class Shelf:
    def __init__(self, orders, book):
        self.book = book
        self.orders = []
        self.lines = []
        self.things = {}
        self.given = 0
        for which, order in enumerate(orders):
            self.keep(which, order)

    # Keeps a list by one order more, or by another one in the place of the one so numbered.
    def keep(self, which, order):
        if which == len(self.orders):
            self.orders.append(order)
            self.lines.append([])
        self.orders[which] = order
        self.lines[which] = []
        for number in self.things:
            self.line_up(which, number)

    def put(self, thing):
        number = self.given
        self.given = number + 1
        self.put_in(number, thing)
        return number

    def take(self, number):
        self.thing(number)
        for line in self.lines:
            line.remove(number)
        self.things.pop(number)

    def change(self, number, field, fraction):
        thing = self.thing(number)
        if field not in self.book:
            raise NoField(field)
        place = self.book.index(field)
        self.take(number)
        self.put_in(number, thing[:place] + (fraction,) + thing[place + 1:])

    def thing(self, number):
        if number not in self.things:
            raise NoThing("no thing has this number")
        return self.things[number]

    def numbers(self, which):
        return list(self.lines[which])

    def place(self, which, number):
        self.thing(number)
        return self.lines[which].index(number)

    def between(self, which, one, other):
        first = self.many_that(which, one, ("ahead",))
        last = self.many_that(which, other, ("ahead", "like"))
        return self.lines[which][first:last]

    def put_in(self, number, thing):
        self.things[number] = thing
        for which in range(len(self.orders)):
            self.line_up(which, number)

    def line_up(self, which, number):
        line = self.lines[which]
        # Behind those ahead of it stand those like it, by their numbers.
        first = self.many_that(which, self.things[number], ("ahead",))
        last = self.many_that(which, self.things[number], ("ahead", "like"))
        line.insert(first + many_ahead(last - first, lambda place: line[first + place] < number), number)

    # How many of a list look so at a thing; they come first in it.
    def many_that(self, which, thing, ways):
        line = self.lines[which]
        order = self.orders[which]

        def lies_ahead(place):
            return looked(order, self.book, self.things[line[place]], thing) in ways

        return many_ahead(len(line), lies_ahead)
