"""The desk: a book of things and orders by names, asked line by line."""

from ordertext.asks import parts_of
from ordertext.cases.alike import alike
from ordertext.cases.judged import judged
from ordertext.errors import NoPlace, NoRow
from ordertext.orders.texts import read_order
from ordertext.rows.books import Shelf
from ordertext.rows.fronts import fronts
from ordertext.rows.moves import moves
from ordertext.rows.sorts import turned
from ordertext.things.fractions import number_shown, read_number


class Desk:
    def __init__(self):
        self.shelf = Shelf((), ())
        self.which_by = {}

    def ask(self, line):
        parts = parts_of(line, self.shelf.book, self.which_by)
        word = parts[0]
        if word == "fields":
            self.shelf = Shelf((), tuple(parts[1:]))
            self.which_by = {}
        elif word == "order":
            self.put_order(parts[1], parts[2])
        elif word == "take":
            self.shelf.take(parts[1])
        elif word == "turn":
            self.shelf.change(parts[1], parts[2], read_number(parts[3]))
        else:
            return self.answered(word, parts[1:])
        return []

    def put_order(self, name, text):
        order = read_order(text, self.shelf.book)
        told = judged(order, self.shelf.book)
        if told[0] == "fails":
            raise NoRow(told[1])
        self.shelf.keep(self.which_by.setdefault(name, len(self.which_by)), order)

    def answered(self, word, parts):
        if word == "judge":
            order = read_order(parts[0], self.shelf.book)
            return things_shown(judged(order, self.shelf.book), "order")
        if word == "same":
            orders = self.orders_by(parts)
            return things_shown(alike(orders[0], orders[1], self.shelf.book), "alike")
        if word == "put":
            return [str(self.shelf.put(tuple([read_number(part) for part in parts])))]
        if word == "place":
            return [str(self.shelf.place(self.which_by[parts[0]], parts[1]))]
        if word == "fronts":
            return self.fronts_by(parts)
        row = self.row_by(parts[0])
        if word == "moves":
            return moves_shown_from(row, self.row_by(parts[1]))
        if word == "first":
            row = first_of(row, parts[1])
        return [str(number) for number in row]

    def row_by(self, name):
        return self.shelf.numbers(self.which_by[name])

    def orders_by(self, names):
        return [self.shelf.orders[self.which_by[name]] for name in names]

    def fronts_by(self, names):
        numbers = sorted(self.shelf.things)
        row = tuple([self.shelf.thing(number) for number in numbers])
        told = fronts(self.orders_by(names), self.shelf.book, row)[0]
        return [in_one_text(turned(numbers, front)) for front in told]


# What is told with a paper is shown by one word, else the things that show it.
def things_shown(told, word):
    if told[0] == word:
        return [word]
    return [thing_shown(thing) for thing in told[1]]


def thing_shown(thing):
    return " ".join([number_shown(number) for number in thing])


def moves_shown_from(row, other):
    turn = tuple([row.index(number) for number in other])
    return [in_one_text(pair) for pair in moves(turn)]


def in_one_text(numbers):
    return " ".join([str(number) for number in numbers])


def first_of(row, many):
    if many > len(row):
        raise NoPlace("there are not so many")
    return row[:many]
