"""Rows that are each in order poured together, and long rows put in order part by part."""

from ordertext.errors import NoRow
from ordertext.orders.looks import looked
from ordertext.rows.counted import Looks
from ordertext.rows.sorts import turned, turning


def poured(order, book, rows):
    for row in rows:
        found_in_order(order, book, row)
    looks = Looks(order, book)

    def is_behind(one, other):
        return looks.look(thing_at(rows, one), thing_at(rows, other)) == "behind"

    # Each round halves how many lines there are, so there are as many rounds as bits in
    # how many rows there are less one; and a round takes at most one look for each thing.
    lines = [spots_in(number, row) for number, row in enumerate(rows)]
    while len(lines) > 1:
        lines = [one_line(pair, is_behind) for pair in by_twos(lines)]
    spots = lines[0] if lines != [] else []
    return (tuple([thing_at(rows, spot) for spot in spots]), tuple(spots), looks.taken)


def found_in_order(order, book, row):
    for one, other in zip(row, row[1:]):
        if looked(order, book, one, other) == "behind":
            raise NoRow((one, other))


def spots_in(number, row):
    return [(number, place) for place in range(len(row))]


def thing_at(rows, spot):
    return rows[spot[0]][spot[1]]


def by_twos(parts):
    return [parts[place:place + 2] for place in range(0, len(parts), 2)]


def one_line(pair, is_behind):
    if len(pair) == 1:
        return pair[0]
    other = pair[1]
    line = []
    start = 0
    for spot in pair[0]:
        # Like ones stay where they are, so they stand as their rows stand.
        while start < len(other) and is_behind(spot, other[start]):
            line.append(other[start])
            start = start + 1
        line.append(spot)
    return line + other[start:]


def in_parts(order, book, row, room):
    parts = [row[place:place + room] for place in range(0, len(row), room)]
    parts = [turned(part, turning(order, book, part)) for part in parts]
    rounds = [tuple(parts)]
    while len(parts) > 1:
        parts = [poured(order, book, pair)[0] for pair in by_twos(parts)]
        rounds.append(tuple(parts))
    return tuple(rounds)
