import itertools
import random
import unittest
from fractions import Fraction

from some_orders import fraction_of, thing

from ordertext.cases.facts import fits, follows

TWENTY = 98765432109876543210
OTHER = {"less": "more", "same": "same", "more": "less", None: None}


def at(number, field=0):
    return ("thing", number, field)


def num(value):
    return ("number", fraction_of(value))


def value_of(point, things):
    return Fraction(*(point[1] if point[0] == "number" else things[point[1]][point[2]]))


def hold(facts, things):
    for one, how, other in facts:
        left, right = value_of(one, things), value_of(other, things)
        if not (left < right if how == "less" else left == right):
            return False
    return True


def models(facts, points):
    """Values for the points of things, as many sorts of them as there are, of which the facts hold."""
    numbers = sorted({Fraction(*point[1]) for point in points if point[0] == "number"})
    moving = sorted({point for point in points if point[0] == "thing"})
    steps = [Fraction(step, len(moving) + 1) for step in range(1, len(moving) + 1)]
    grid = list(numbers)
    for low, high in zip(numbers, numbers[1:]):
        grid += [low + (high - low) * step for step in steps]
    grid += [(numbers[0] if numbers else 0) - step for step in steps]
    grid += [numbers[-1] + step for step in steps] if numbers else []
    for values in itertools.product(grid, repeat=len(moving)):
        known = dict(zip(moving, values))
        known.update({point: Fraction(*point[1]) for point in points if point[0] == "number"})
        if all(known[one] < known[other] if how == "less" else known[one] == known[other] for one, how, other in facts):
            yield known


def some_facts(chance, points, many):
    facts = []
    while len(facts) < many:
        one, other = chance.choice(points), chance.choice(points)
        if one[0] == "number" and other[0] == "number":
            continue
        if "number" in (one[0], other[0]) or one[2] == other[2]:
            facts.append((one, chance.choice(["less", "less", "same"]), other))
    return facts


class FitsTest(unittest.TestCase):
    def fit(self, facts, many):
        things = fits(facts, many)
        self.assertIs(type(things), tuple)
        self.assertEqual(len(things), 3)
        for one in things:
            self.assertIs(type(one), tuple)
            self.assertEqual(len(one), many)
            for value in one:
                self.assertIs(type(value), tuple)
                self.assertEqual([type(part) for part in value], [int, int])
                self.assertEqual(fraction_of(Fraction(*value)), value)
        self.assertTrue(hold(facts, things), (facts, things))
        return things

    def test_no_facts(self):
        for many in (1, 2, 3, 4):
            self.fit([], many)
            self.fit((), many)

    def test_a_chain(self):
        self.fit([(at(0), "less", at(1)), (at(1), "less", at(2))], 1)
        self.assertIsNone(fits([(at(0), "less", at(1)), (at(1), "less", at(2)), (at(2), "less", at(0))], 1))
        self.assertIsNone(fits([(at(0), "less", at(1)), (at(1), "same", at(2)), (at(2), "same", at(0))], 1))
        self.fit([(at(0), "same", at(1)), (at(1), "same", at(2)), (at(2), "same", at(0))], 1)

    def test_a_point_and_itself(self):
        self.fit([(at(1), "same", at(1))], 1)
        self.assertIsNone(fits([(at(1), "less", at(1))], 1))

    def test_facts_in_both_directions(self):
        self.assertIsNone(fits([(at(0), "less", at(1)), (at(1), "less", at(0))], 1))
        self.assertIsNone(fits([(at(0), "less", at(1)), (at(0), "same", at(1))], 1))
        self.assertIsNone(fits([(at(0), "same", at(1)), (at(1), "less", at(0))], 1))

    def test_numbers(self):
        self.fit([(num(1), "less", at(0)), (at(0), "less", num(2))], 1)
        self.assertIsNone(fits([(num(2), "less", at(0)), (at(0), "less", num(1))], 1))
        self.assertIsNone(fits([(num(1), "less", at(0)), (at(0), "less", num(1))], 1))
        self.assertEqual(self.fit([(at(0), "same", num("1/2"))], 1)[0], ((1, 2),))
        self.assertEqual(self.fit([(num("1/2"), "same", at(2, 1))], 2)[2][1], (1, 2))
        self.assertIsNone(fits([(at(0), "same", num(1)), (at(0), "same", num(2))], 1))
        self.assertIsNone(fits([(at(0), "same", num(2)), (at(1), "same", num(1)), (at(0), "less", at(1))], 1))
        self.fit([(at(0), "same", num(1)), (at(1), "same", num(1))], 1)

    def test_fields_are_apart(self):
        self.fit([(at(0, 0), "less", at(1, 0)), (at(1, 1), "less", at(0, 1))], 2)
        self.fit([(at(0, 0), "less", num(0)), (num(5), "less", at(0, 3)), (at(1, 2), "same", num(0))], 4)

    def test_lists_and_tuples_alike(self):
        facts = [(num(1), "less", at(0)), (at(0), "less", at(1)), (at(1), "less", num(2))]
        before = list(facts)
        self.assertEqual(self.fit(facts, 2), self.fit(tuple(facts), 2))
        self.assertEqual(facts, before)
        self.assertEqual(fits(facts, 2), fits(facts, 2))

    def test_near_together_and_great(self):
        low, high = Fraction(TWENTY, TWENTY + 1), Fraction(TWENTY + 1, TWENTY + 2)
        facts = [(num(low), "less", at(0)), (at(0), "less", at(1)), (at(1), "less", at(2)), (at(2), "less", num(high))]
        self.fit(facts, 1)
        self.assertIsNone(fits([(num(high), "less", at(0)), (at(0), "less", num(low))], 1))
        self.fit([(num(TWENTY), "less", at(0)), (at(1), "less", num(-TWENTY))], 1)

    def test_sixty_facts_and_eight_numbers(self):
        facts = []
        for field in range(4):
            for number in range(3):
                point, low, high = at(number, field), num(Fraction(field + number, 8)), num(2 + field % 2)
                facts += [(low, "less", point), (point, "less", high)]
                facts += [(point, "less", at(number + 1, field))] if number < 2 else []
        facts = (facts + facts)[:60]
        self.assertEqual(len(facts), 60)
        self.assertEqual(len({point for fact in facts for point in (fact[0], fact[2]) if point[0] == "number"}), 8)
        self.fit(facts, 4)
        self.assertIsNone(fits(facts[:59] + [(at(2, 3), "less", at(0, 3))], 4))

    def test_by_trying_all(self):
        chance = random.Random(10)
        points = [at(0), at(1), at(2), num(0), num(1), at(0, 1), num("1/2")]
        seen = {True: 0, False: 0}
        for turn in range(300):
            chosen = chance.sample(points, 5)
            if all(point[0] == "number" for point in chosen):
                continue
            facts = some_facts(chance, chosen, chance.randrange(1, 6))
            known = [point for fact in facts for point in (fact[0], fact[2])]
            told = any(True for model in models(facts, known))
            with self.subTest(facts=facts):
                if told:
                    self.fit(facts, 2)
                else:
                    self.assertIsNone(fits(facts, 2))
            seen[told] += 1
        self.assertGreater(min(seen.values()), 30)

    def test_many_facts_that_hold_of_things(self):
        chance = random.Random(11)
        for turn in range(100):
            values = [Fraction(chance.randrange(-6, 7), chance.randrange(1, 5)) for place in range(12)]
            numbers = [num(Fraction(chance.randrange(-6, 7), 2)) for place in range(8)]
            things = tuple(thing(*values[place:place + 4]) for place in (0, 4, 8))
            points = [at(number, field) for number in range(3) for field in range(4)] + numbers
            facts = [fact for fact in some_facts(chance, points, 200) if hold([fact], things)][:60]
            self.fit(facts, 4)


class FollowsTest(unittest.TestCase):
    def both_ways(self, facts, one, other, told):
        with self.subTest(facts=facts, one=one, other=other):
            self.assertEqual(follows(facts, one, other), told)
            self.assertEqual(follows(facts, other, one), OTHER[told])
            self.assertEqual(follows(tuple(facts), one, other), told)

    def test_a_fact_itself(self):
        self.both_ways([(at(0), "less", at(1))], at(0), at(1), "less")
        self.both_ways([(at(0), "same", at(1))], at(0), at(1), "same")
        self.both_ways([(at(0), "less", num(1))], at(0), num(1), "less")

    def test_put_together(self):
        facts = [(at(0), "less", at(1)), (at(1), "same", at(2))]
        self.both_ways(facts, at(0), at(2), "less")
        self.both_ways(facts, at(2), at(1), "same")
        self.both_ways([(at(0), "same", at(1)), (at(2), "same", at(1))], at(0), at(2), "same")
        self.both_ways([(at(0), "less", at(1)), (at(0), "less", at(2))], at(1), at(2), None)

    def test_a_point_that_stands_in_none(self):
        for facts in ([], [(at(0), "less", at(1))], [(at(0), "same", num(3))]):
            self.both_ways(facts, at(2), at(0), None)
            self.both_ways(facts, at(2), num(3), None)
            self.both_ways(facts, at(2), at(2, 1), None)
            self.both_ways(facts, at(2), at(2), "same")
            self.both_ways(facts, at(1, 3), at(1, 3), "same")

    def test_a_point_and_itself(self):
        facts = [(at(0), "less", num(1))]
        self.both_ways(facts, at(0), at(0), "same")
        self.both_ways(facts, num(1), num(1), "same")
        self.both_ways(facts, num(7), num(7), "same")

    def test_a_number_takes_its_place_among_the_others(self):
        facts = [(num(1), "less", at(0)), (at(0), "less", num(2))]
        for value, told in ((0, "more"), (1, "more"), ("3/2", None), (2, "less"), (3, "less")):
            self.both_ways(facts, at(0), num(value), told)
        facts = [(at(0), "same", num(1))]
        for value, told in ((0, "more"), (1, "same"), (2, "less")):
            self.both_ways(facts, at(0), num(value), told)

    def test_two_numbers(self):
        for facts in ([], [(at(0), "same", num(1))]):
            self.both_ways(facts, num(1), num(2), "less")
            self.both_ways(facts, num("1/2"), num("1/3"), "more")
            self.both_ways(facts, num(-3), num(-3), "same")

    def test_points_of_unlike_fields_through_numbers(self):
        facts = [(at(0, 0), "less", num(1)), (num(2), "less", at(0, 1))]
        self.both_ways(facts, at(0, 0), at(0, 1), "less")
        self.both_ways([(at(0, 0), "same", num(1)), (at(2, 1), "same", num(1))], at(0, 0), at(2, 1), "same")
        self.both_ways([(at(0, 0), "less", num(1)), (at(0, 1), "less", num(1))], at(0, 0), at(0, 1), None)
        facts = [(at(0, 0), "less", at(1, 0)), (at(1, 0), "same", num(1)), (num(1), "less", at(1, 1))]
        self.both_ways(facts, at(0, 0), at(1, 1), "less")

    def test_near_together_and_great(self):
        low, high = Fraction(TWENTY, TWENTY + 1), Fraction(TWENTY + 1, TWENTY + 2)
        facts = [(at(0), "same", num(low)), (at(1), "same", num(high))]
        self.both_ways(facts, at(0), at(1), "less")
        self.both_ways(facts, at(0), num(high), "less")
        self.both_ways(facts, at(1), num(Fraction(2 * TWENTY + 1, 2 * TWENTY + 3)), "more")

    def test_sixty_facts(self):
        facts = []
        for field in range(4):
            facts += [(num(2 * field), "less", at(0, field)), (at(0, field), "less", at(1, field)),
                      (at(1, field), "same", at(2, field)), (at(2, field), "less", num(2 * field + 1))]
        facts = (4 * facts)[:60]
        self.both_ways(facts, at(0, 0), at(2, 0), "less")
        self.both_ways(facts, at(2, 0), at(0, 3), "less")
        self.both_ways(facts, at(1, 3), at(2, 3), "same")
        self.both_ways(facts, at(2, 2), num("9/2"), None)
        self.both_ways(facts, at(2, 2), num(5), "less")

    def test_by_trying_all(self):
        chance = random.Random(12)
        points = [at(0), at(1), at(2), num(0), num(1), at(0, 1), at(1, 1)]
        for turn in range(250):
            chosen = chance.sample(points, 4)
            if all(point[0] == "number" for point in chosen):
                continue
            facts = some_facts(chance, chosen, chance.randrange(5))
            asked = [chance.choice(chosen), chance.choice(chosen)]
            known = [point for fact in facts for point in (fact[0], fact[2])] + asked
            seen = set()
            for model in models(facts, known):
                one, other = model[asked[0]], model[asked[1]]
                seen.add("less" if one < other else "more" if one > other else "same")
            if seen:
                self.both_ways(facts, asked[0], asked[1], seen.pop() if len(seen) == 1 else None)

    def test_nothing_handed_in_is_changed(self):
        facts = [(num(1), "less", at(0)), (at(0), "less", num(2))]
        before = list(facts)
        for turn in range(2):
            self.assertEqual(follows(facts, at(0), num(3)), "less")
        self.assertEqual(facts, before)


if __name__ == "__main__":
    unittest.main()
