"""Looks at two things, counted."""

from ordertext.orders.looks import looked


class Looks:
    def __init__(self, order, book):
        self.order = order
        self.book = book
        self.taken = 0

    def look(self, first, second):
        self.taken = self.taken + 1
        return looked(self.order, self.book, first, second)
