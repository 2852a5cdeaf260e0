"""What several tests need: orders by chance, things of written numbers, an order's words by point [7]."""

import itertools
from fractions import Fraction

from ordertext.orders.looks import is_order, looked
from ordertext.orders.texts import read_order

OTHER_WAY = {"ahead": "behind", "like": "like", "behind": "ahead"}
# Orders for all things of a book with the fields a and b.
RIGHT_TEXTS = ("up a", "down b", "like", "then up a down b", "turn then up b up a", "pick both under a 2 up b up a")
PARTS = {
    "like": [], "up": ["field"], "down": ["field"], "then": ["order", "order"], "turn": ["order"],
    "pick": ["case", "order", "order"], "same": ["field"], "both": ["mark"], "either": ["mark"], "not": ["case"],
    "and": ["case", "case"], "or": ["case", "case"], "under": ["field", "number"], "is": ["field", "number"],
}
BEGINS = {
    "order": ["like", "up", "down", "then", "turn", "pick"],
    "case": ["same", "both", "either", "not", "and", "or"],
    "mark": ["under", "is"],
}


def fraction_of(value):
    value = Fraction(value)
    return (value.numerator, value.denominator)


def thing(*values):
    return tuple(fraction_of(value) for value in values)


def some_order(chance, book, numbers, kind="order", deep=4):
    if kind == "field":
        return (chance.choice(book),)
    if kind == "number":
        return (chance.choice(numbers),)
    word = chance.choice(BEGINS[kind][:3] if deep == 0 else BEGINS[kind])
    told = (word,)
    for part in PARTS[word]:
        told += some_order(chance, book, numbers, part, max(deep - 1, 0))
    return told


def read_part(words):
    """The part that stands at the begin of the words, as a nest of lists."""
    word = words.pop(0)
    return [word] + [read_part(words) for part in PARTS[word]] if word in PARTS else word


def by_the_book(part, book, first, second):
    """The words of point [7], one by one."""
    word, parts = part[0], part[1:]
    values = {name: (Fraction(*one), Fraction(*other)) for name, one, other in zip(book, first, second)}
    if word == "like":
        return "like"
    if word in ("up", "down"):
        one, other = values[parts[0]]
        if one == other:
            return "like"
        return "ahead" if (one < other) == (word == "up") else "behind"
    if word == "then":
        told = by_the_book(parts[0], book, first, second)
        return by_the_book(parts[1], book, first, second) if told == "like" else told
    if word == "turn":
        return by_the_book(parts[0], book, second, first)
    if word == "pick":
        return by_the_book(parts[1] if by_the_book(parts[0], book, first, second) else parts[2], book, first, second)
    if word == "same":
        return values[parts[0]][0] == values[parts[0]][1]
    if word in ("both", "either"):
        how, name, number = parts[0]
        holds = [value < Fraction(*number) if how == "under" else value == Fraction(*number) for value in values[name]]
        return all(holds) if word == "both" else any(holds)
    truths = [by_the_book(case, book, first, second) for case in parts]
    if word == "not":
        return not truths[0]
    return all(truths) if word == "and" else any(truths)


def is_one(order, book, things):
    """The words of point [8], two by two and three by three."""
    for one, other in itertools.product(things, things):
        if looked(order, book, one, other) != OTHER_WAY[looked(order, book, other, one)]:
            return False
    for one, two, three in itertools.product(things, things, things):
        looks = [looked(order, book, one, two), looked(order, book, two, three), looked(order, book, one, three)]
        if looks[0] != "behind" and looks[1] != "behind":
            if looks[2] == "behind" or (looks[2] == "like" and looks != ["like", "like", "like"]):
                return False
    return True


def grid(numbers, fields, many):
    """Things of all values that so many things can have among the numbers, as far as orders can tell."""
    row = sorted(Fraction(*number) for number in numbers)
    values = list(row) + [row[0] - step for step in range(1, many + 1)] + [row[-1] + step for step in range(1, many + 1)]
    for low, high in zip(row, row[1:]):
        values += [low + (high - low) * Fraction(step, many + 1) for step in range(1, many + 1)]
    return [thing(*row) for row in itertools.product(values, repeat=fields)]


def order_of(text, book=("a", "b")):
    return read_order(text, book)


def some_row(chance, many, values, fields=2):
    """A row of so many things by chance, of few values, so that some are like or the same."""
    return tuple(thing(*[chance.randrange(values) for field in range(fields)]) for place in range(many))


def some_right_order(chance, book, row):
    """An order by chance that is one for the row."""
    while True:
        order = ("pick",)
        for kind in ("case", "order", "order"):
            order += some_order(chance, book, ((0, 1), (1, 2), (1, 1), (2, 1)), kind, 2)
        if is_order(order, book, row):
            return order


def in_order_by_the_book(order, book, row):
    """A row put in order by the words of point [13]: each thing behind those ahead of it or like it."""
    told = []
    for one in row:
        place = 0
        while place < len(told) and looked(order, book, told[place], one) != "behind":
            place += 1
        told.insert(place, one)
    return tuple(told)


class CountingBook(tuple):
    """A book that counts how often a field's place is asked for: by `up a` once a look."""

    def index(self, field):
        self.asked = getattr(self, "asked", 0) + 1
        return tuple.index(self, field)


def bits(many):
    """How many bits are needed to write a number; of 0 none."""
    return len(bin(many)) - 2 if many > 0 else 0
