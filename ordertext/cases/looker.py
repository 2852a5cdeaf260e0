"""The looker: whether a paper by cases is let by, whoever wrote it."""

from ordertext.cases.asked import alike_holds, alike_looks, order_holds, order_looks
from ordertext.cases.rests import asks_in_all, numbers_in, rests_of
from ordertext.cases.told import THINGS, nothing_told, ways
from ordertext.things.fractions import is_fraction


def order_shown_by(order, book, paper):
    return let_by(paper, len(book), order_looks(order, book), order_holds)


def alike_shown_by(one, other, book, paper):
    return let_by(paper, len(book), alike_looks(one, other, book), alike_holds)


def let_by(paper, fields, looks, holds):
    if not is_paper(paper, fields):
        return False
    begin = nothing_told(fields, numbers_in(splits_in(paper) + asks_in_all(looks)))
    walk = Walk(paper, begin, holds)
    shown = walk.come(0, begin, looks)
    while shown and walk.to_go != []:
        shown = walk.go_on()
    return shown


class Walk:
    def __init__(self, paper, begin, holds):
        self.paper = paper
        self.holds = holds
        self.needs_on = needs_on(paper, begin)
        self.seen = {}
        self.to_go = []

    def come(self, number, told, looks):
        rests = rests_of(looks, told)
        asks = asks_in_all(rests)
        if asks == []:
            # Facts that fit go on to an end, and there these looks are told the same.
            return self.holds(rests)
        if self.paper[number] == ("end",):
            return False
        # Ways that leave the same open, and of all that is asked further on the same
        # told, go on alike: one of them is gone for all.
        needs = joined(told.needs(asks), self.needs_on[number])
        key = (number, rests, told.kept(needs))
        if key not in self.seen:
            self.seen[key] = True
            self.to_go.append((number, told, rests))
        return True

    def go_on(self):
        state = self.to_go.pop()
        knot = self.paper[state[0]]
        for fact, onward in zip(ways(knot[1], knot[2]), knot[3:]):
            further = state[1].learned(fact[0], fact[1], fact[2])
            if further is not None and not self.come(onward, further, state[2]):
                return False
        return True


# For each knot what its split and all that follow ask.
def needs_on(paper, begin):
    needs = [begin.needs([]) for knot in paper]
    for number in range(len(paper) - 1, -1, -1):
        knot = paper[number]
        if knot[0] == "split":
            needs[number] = begin.needs([(knot[1], knot[2])])
            for onward in knot[3:]:
                needs[number] = joined(needs[number], needs[onward])
    return needs


def joined(one, other):
    return [bits | more for bits, more in zip(one, other)]


def splits_in(paper):
    return [(knot[1], knot[2]) for knot in paper if knot[0] == "split"]


def is_paper(paper, fields):
    if len(paper) == 0:
        return False
    return all([is_knot(knot, number, len(paper), fields) for number, knot in enumerate(paper)])


def is_knot(knot, number, many, fields):
    if len(knot) != 6 or knot[0] != "split":
        return knot == ("end",)
    return a_fact_tells(knot[1], knot[2], fields) and all([number < onward < many for onward in knot[3:]])


def a_fact_tells(one, other, fields):
    if not is_point(one, fields) or not is_point(other, fields):
        return False
    if one[0] == "thing" and other[0] == "thing":
        return one[2] == other[2]
    return one[0] != other[0]


def is_point(point, fields):
    if point[0] == "number":
        return is_fraction(point[1])
    return point[0] == "thing" and 0 <= point[1] < THINGS and 0 <= point[2] < fields
