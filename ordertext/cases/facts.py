"""Whether facts fit, with things that show it, and what follows from them."""

from ordertext.cases.models import things_of
from ordertext.cases.told import nothing_told


def fits(facts, many):
    told = told_by(facts, many)
    return None if told is None else things_of(told, many)


def follows(facts, one, other):
    told = told_by(facts, fields_of([one, other]))
    return None if told is None else told.tells(one, other)


def told_by(facts, many):
    points = points_in(facts)
    numbers = [point[1] for point in points if point[0] == "number"]
    told = nothing_told(max(many, fields_of(points)), numbers)
    for fact in facts:
        told = told.learned(fact[0], fact[1], fact[2])
        if told is None:
            return None
    return told


def points_in(facts):
    points = []
    for fact in facts:
        points.extend([fact[0], fact[2]])
    return points


def fields_of(points):
    return max([point[2] + 1 for point in points if point[0] == "thing"], default=0)
