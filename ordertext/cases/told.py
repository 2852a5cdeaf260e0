"""Facts put together with the numbers' own order, and the looks that they tell."""

from ordertext.orders.telling import telling
from ordertext.things.fractions import place_among

AHEAD = {"less": "ahead", "same": "like", "more": "behind"}


class Told:
    def __init__(self, facts):
        self.places = {}
        self.number_row = []
        # For each point, by its place, one bit for each point that rows of facts
        # lead to from it, and for each that they lead to through a less.
        self.led_to = []
        self.more = []
        for fact in facts:
            self.learn(fact)

    def learn(self, fact):
        self.meet(fact[0])
        self.meet(fact[2])
        if fact[1] == "less":
            self.lead(fact[0], fact[2], True)
        else:
            self.lead(fact[0], fact[2], False)
            self.lead(fact[2], fact[0], False)

    def meet(self, point):
        if point in self.places:
            return
        place = len(self.led_to)
        self.places[point] = place
        self.led_to.append(1 << place)
        self.more.append(0)
        if point[0] == "number":
            self.stand(point[1])

    def stand(self, number):
        place = place_among(self.number_row, number)
        self.number_row.insert(place, number)
        if place > 0:
            self.lead(("number", self.number_row[place - 1]), ("number", number), True)
        if place + 1 < len(self.number_row):
            self.lead(("number", number), ("number", self.number_row[place + 1]), True)

    def lead(self, one, other, through_less):
        start = self.places[one]
        end = self.places[other]
        onward = self.led_to[end]
        onward_more = self.more[end]
        for place in range(len(self.led_to)):
            if self.led_to[place] >> start & 1:
                less = through_less or self.more[place] >> start & 1
                self.led_to[place] = self.led_to[place] | onward
                self.more[place] = self.more[place] | (onward if less else onward_more)

    def agree(self):
        return not any([self.more[place] >> place & 1 for place in range(len(self.more))])

    def tells(self, one, other):
        for point in (one, other):
            # A number's place among the others is known whether or not a fact has it.
            if point[0] == "number":
                self.meet(point)
        if one == other:
            return "same"
        if one not in self.places or other not in self.places:
            return None
        start = self.places[one]
        end = self.places[other]
        if self.more[start] >> end & 1:
            return "less"
        if self.more[end] >> start & 1:
            return "more"
        return "same" if self.led_to[start] >> end & 1 else None

    def ranks(self):
        # How many points are less: a lesser point has fewer, like ones as many.
        ranks = {}
        for point, place in self.places.items():
            ranks[point] = sum([bits >> place & 1 for bits in self.more])
        return ranks


def look_told(told, order, book, first, second):
    def field_told(field):
        place = book.index(field)
        return AHEAD.get(told.tells(("thing", first, place), ("thing", second, place)))

    def mark_told(word, field, number):
        place = book.index(field)
        point = ("number", number)
        return (
            mark_of(word, told.tells(("thing", first, place), point)),
            mark_of(word, told.tells(("thing", second, place), point)),
        )

    return telling(order, field_told, mark_told)


def mark_of(word, how):
    if how is None:
        return None
    return how == ("less" if word == "under" else "same")
