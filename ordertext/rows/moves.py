"""The fewest moves from one turning to another one, and a paper that no fewer lead there."""

from ordertext.rows.places import are_places, cover
from ordertext.things.halving import many_ahead


def moves(turn):
    kept = paper_of(turn)[0]
    now = list(range(len(turn)))
    pairs = []
    for place, number in enumerate(turn):
        if place not in kept:
            start = now.index(number)
            now.pop(start)
            # Those of the turning so far and those that are kept stand right already, so
            # directly behind the one ahead of it this one does, too.
            end = now.index(turn[place - 1]) + 1 if place > 0 else 0
            now.insert(end, number)
            pairs.append((start, end))
    return tuple(pairs)


def moved(row, pairs):
    things = list(row)
    for pair in pairs:
        thing = things.pop(pair[0])
        things.insert(pair[1], thing)
    return tuple(things)


def paper_of(turn):
    rows = []
    # For each place the last one, when it came, of the row ahead of its own: its number is
    # less. So each row gives one place to a rising part.
    before = []
    for place, number in enumerate(turn):
        which = many_ahead(len(rows), lambda spot: turn[rows[spot][-1]] < number)
        before.append(rows[which - 1][-1] if which > 0 else None)
        if which == len(rows):
            rows.append([])
        rows[which].append(place)
    kept = []
    last = rows[-1][-1] if rows != [] else None
    while last is not None:
        kept.insert(0, last)
        last = before[last]
    return (tuple(kept), tuple([tuple(row) for row in rows]))


def moves_shown(turn, paper):
    kept = paper[0]
    rows = paper[1]
    if len(rows) != len(kept) or not cover(rows, len(turn)) or not are_places(kept, len(turn)):
        return False
    falling = [-number for number in turn]
    return numbers_rise(turn, kept) and all([numbers_rise(falling, row) for row in rows])


def numbers_rise(numbers, places):
    return all([one < other and numbers[one] < numbers[other] for one, other in zip(places, places[1:])])
