"""Papers by cases, written as far as looks ask."""

from ordertext.cases.rests import asks_in_all, numbers_in, rests_of
from ordertext.cases.told import nothing_told, ways

END = 0


def written(looks, holds, fields):
    writer = Writer(holds)
    writer.write(nothing_told(fields, numbers_in(asks_in_all(looks))), looks)
    return writer


class Writer:
    def __init__(self, holds):
        self.holds = holds
        # From the last knot on, as each knot's number is less than those it leads to.
        self.knots = [("end",)]
        self.places = {}
        self.against = None

    # Gives the place of the knot to go on from, or None where a case is found that does not hold.
    def write(self, told, looks):
        rests = rests_of(looks, told)
        asks = asks_in_all(rests)
        if asks == []:
            if self.holds(rests):
                return END
            self.against = told
            return None
        # Ways that leave the same open, and of it the same told, go on in one knot.
        key = (rests, told.kept(told.needs(asks)))
        if key not in self.places:
            self.places[key] = self.write_split(told, rests, asks[0])
        return self.places[key]

    def write_split(self, told, rests, ask):
        onward = []
        for one, how, other in ways(ask[0], ask[1]):
            further = told.learned(one, how, other)
            place = END if further is None else self.write(further, rests)
            if place is None:
                return None
            onward.append(place)
        self.knots.append(("split", ask[0], ask[1], onward[0], onward[1], onward[2]))
        return len(self.knots) - 1

    def whole(self):
        return tuple([self.renumbered(knot) for knot in reversed(self.knots)])

    def renumbered(self, knot):
        if knot[0] == "end":
            return knot
        last = len(self.knots) - 1
        return knot[:3] + (last - knot[3], last - knot[4], last - knot[5])
