"""Whether facts fit, with things that show it, and what follows from them."""

from ordertext.cases.told import Told
from ordertext.things.fractions import fraction, middle

THINGS = 3
NOUGHT = (0, 1)


def fits(facts, many):
    told = Told(facts)
    if not told.agree():
        return None
    ranks = told.ranks()
    values = values_by_rank(ranks)
    return tuple([thing_of(ranks, values, number, many) for number in range(THINGS)])


def thing_of(ranks, values, number, many):
    fields = []
    for field in range(many):
        rank = ranks.get(("thing", number, field))
        fields.append(NOUGHT if rank is None else values[rank])
    return tuple(fields)


def values_by_rank(ranks):
    numbers = numbers_by_rank(ranks)
    values = {}
    last = None
    for rank in sorted(set(list(ranks.values()))):
        if rank in numbers:
            last = numbers[rank]
        else:
            last = between(last, next_number(numbers, rank))
        values[rank] = last
    return values


def numbers_by_rank(ranks):
    numbers = {}
    for point, rank in ranks.items():
        if point[0] == "number":
            numbers[rank] = point[1]
    return numbers


def next_number(numbers, rank):
    above = [other for other in numbers if other > rank]
    return numbers[min(above)] if above else None


def between(low, high):
    if low is not None and high is not None:
        return middle(low, high)
    if low is not None:
        return fraction(low[0] + low[1], low[1])
    if high is not None:
        return fraction(high[0] - high[1], high[1])
    return NOUGHT


def follows(facts, one, other):
    return Told(facts).tells(one, other)
