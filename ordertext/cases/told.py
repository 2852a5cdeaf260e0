"""What facts tell of points, put together with the numbers' own order.

The numbers of which facts tell stand in a row: the one of place k at spot 2 * k, and what
lies between two numbers at the odd spot between theirs (ahead of all at -1). A point of a
thing stands somewhere from its low spot to its high one. Facts lead from point to point
within one field alone, so each field's three points are put together by themselves.
"""

from ordertext.things.fractions import how_stands, place_among, rising

THINGS = 3


class Told:
    def __init__(self, number_row, spots, low, high, led_to, more):
        self.number_row = number_row
        self.spots = spots
        self.low = low
        self.high = high
        # For each point, by its place, one bit for each point of a thing that facts
        # lead to from it, and for each that they lead to through a less.
        self.led_to = led_to
        self.more = more

    def learned(self, one, how, other):
        further = Told(
            self.number_row, self.spots, list(self.low), list(self.high), list(self.led_to), list(self.more)
        )
        further.lead(one, other, how == "less")
        if how == "same":
            further.lead(other, one, False)
        return further if further.fits_at(field_of(one, other)) else None

    def lead(self, one, other, less):
        places = places_of(field_of(one, other))
        if one[0] == "thing" and other[0] == "thing":
            self.link(places, place_of(one), place_of(other), less)
        elif one[0] == "thing":
            self.narrow_high(place_of(one), self.spot(other[1]), less)
        else:
            self.narrow_low(place_of(other), self.spot(one[1]), less)
        self.narrow_all(places)

    def link(self, places, start, end, less):
        onward = self.led_to[end]
        onward_more = self.more[end]
        for place in places:
            if self.led_to[place] >> start & 1:
                through_less = less or self.more[place] >> start & 1
                self.led_to[place] = self.led_to[place] | onward
                self.more[place] = self.more[place] | (onward if through_less else onward_more)

    def narrow_low(self, place, low, less):
        # More than a number is behind its spot; more than what lies between two
        # numbers may lie there, too.
        self.low[place] = max(self.low[place], low | 1 if less else low)

    def narrow_high(self, place, high, less):
        self.high[place] = min(self.high[place], (high - 1) | 1 if less else high)

    def narrow_all(self, places):
        for start in places:
            for end in places:
                if self.led_to[start] >> end & 1:
                    less = self.more[start] >> end & 1
                    self.narrow_low(end, self.low[start], less)
                    self.narrow_high(start, self.high[end], less)

    def fits_at(self, field):
        for place in places_of(field):
            if self.low[place] > self.high[place] or self.more[place] >> place & 1:
                return False
        return True

    def span(self, point):
        if point[0] == "thing":
            place = place_of(point)
            return (self.low[place], self.high[place])
        spot = self.spot(point[1])
        return (spot, spot)

    def spot(self, number):
        if number in self.spots:
            return self.spots[number]
        return 2 * place_among(self.number_row, number) - 1

    def tells(self, one, other):
        if one[0] == "thing" and other[0] == "thing":
            return self.tells_at(place_of(one), place_of(other))
        if one[0] == "number" and other[0] == "number":
            return how_stands(one[1], other[1])
        return told_by_spans(self.span(one), self.span(other))

    def tells_at(self, start, end):
        linked = self.linked(start, end)
        if linked is not None:
            return linked
        return told_by_spans((self.low[start], self.high[start]), (self.low[end], self.high[end]))

    def linked(self, start, end):
        if self.more[start] >> end & 1:
            return "less"
        if self.more[end] >> start & 1:
            return "more"
        return "same" if self.led_to[start] >> end & 1 else None

    # For each field the bits of its three things, then those of the numbers, of which is asked.
    def needs(self, asks):
        needs = [0] * (len(self.low) // THINGS)
        for one, other in asks:
            field = field_of(one, other)
            needs[field] = needs[field] | self.bit(one) | self.bit(other)
        return needs

    def bit(self, point):
        if point[0] == "thing":
            return 1 << point[1]
        return 1 << THINGS + self.spot(point[1]) // 2

    # All that matters where nothing is asked or learned further on but of these points:
    # two of whom this is the same then tell the same.
    def kept(self, needs):
        row = []
        for field, need in enumerate(needs):
            places = [place for thing, place in enumerate(places_of(field)) if need >> thing & 1]
            for many, place in enumerate(places):
                row.append(low_kept(self.low[place], need >> THINGS))
                row.append(high_kept(self.high[place], need >> THINGS))
                row.extend([self.tells_at(other, place) for other in places[:many]])
        return tuple(row)


def low_kept(low, numbers):
    below = numbers & ((1 << low // 2 + 1) - 1)
    if below == 0:
        return -1
    last = 2 * (below.bit_length() - 1)
    return last if low == last else last + 1


def high_kept(high, numbers):
    place = (high + 1) // 2
    above = numbers >> place
    if above == 0:
        return None
    first = 2 * (place + (above & -above).bit_length() - 1)
    return first if high == first else first - 1


def told_by_spans(one, other):
    if one[1] < other[0]:
        return "less"
    if one[0] > other[1]:
        return "more"
    # Two that stand at one spot are the same only where it is a number's own.
    return "same" if one == other and one[0] == one[1] and one[0] % 2 == 0 else None


def nothing_told(fields, numbers):
    row = rising(numbers)
    spots = {}
    for place, number in enumerate(row):
        spots[number] = 2 * place
    many = THINGS * fields
    return Told(row, spots, [-1] * many, [2 * len(row) - 1] * many, [1 << place for place in range(many)], [0] * many)


def place_of(point):
    return THINGS * point[2] + point[1]


def places_of(field):
    return list(range(THINGS * field, THINGS * field + THINGS))


def field_of(one, other):
    return one[2] if one[0] == "thing" else other[2]


def ways(one, other):
    return ((one, "less", other), (one, "same", other), (other, "less", one))
