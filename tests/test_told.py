import itertools
import random
import unittest
from fractions import Fraction

from some_orders import fraction_of, some_order, thing

from ordertext.cases.facts import fits, told_by
from ordertext.cases.rests import asks_in, open_look, rest_of
from ordertext.orders.looks import looked
from ordertext.orders.texts import read_order

BOOK = ("a", "b")
NUMBERS = ((0, 1), (1, 2), (1, 1))
A0, A1, A2 = (("thing", number, 0) for number in range(3))
B0, B1, B2 = (("thing", number, 1) for number in range(3))


def num(value):
    return ("number", fraction_of(value))


def look(facts, text, first=0, second=1):
    return look_told(told_by(facts, 2), read_order(text, BOOK), first, second)


def look_told(told, order, first, second):
    rest = rest_of(open_look(order, BOOK, first, second), told)
    return None if asks_in(rest) else rest


def all_facts(things, numbers):
    """Of each point what can be told by facts with the others of its field and with the numbers."""
    facts = []
    for field in range(len(things[0])):
        points = [(("thing", number, field), Fraction(*one[field])) for number, one in enumerate(things)]
        rest = points + [(("number", number), Fraction(*number)) for number in numbers]
        for one, other in itertools.product(points, rest):
            if one[1] == other[1]:
                facts.append((one[0], "same", other[0]))
            elif one[1] < other[1]:
                facts.append((one[0], "less", other[0]))
            else:
                facts.append((other[0], "less", one[0]))
    return facts


class LookToldTest(unittest.TestCase):
    def each(self, cases):
        for facts, text, told in cases:
            with self.subTest(facts=facts, text=text):
                self.assertEqual(look(facts, text), told)

    def test_a_field_by_its_two_points(self):
        self.each([
            ([], "like", "like"), ([], "up a", None), ([], "down a", None),
            ([(A0, "less", A1)], "up a", "ahead"), ([(A0, "less", A1)], "down a", "behind"),
            ([(A1, "less", A0)], "up a", "behind"), ([(A1, "less", A0)], "down a", "ahead"),
            ([(A0, "same", A1)], "up a", "like"), ([(A0, "same", A1)], "down a", "like"),
            ([(A0, "less", A1)], "up b", None), ([(A0, "less", A2)], "up a", None),
            ([(A0, "less", A2), (A2, "same", A1)], "up a", "ahead"),
            ([(A0, "less", num(1)), (num(2), "less", A1)], "up a", "ahead"),
        ])

    def test_turn(self):
        self.each([
            ([(A0, "less", A1)], "turn up a", "behind"), ([(A0, "same", A1)], "turn up a", "like"),
            ([], "turn up a", None), ([], "turn like", "like"),
        ])

    def test_then(self):
        self.each([
            ([(A0, "less", A1)], "then up a up b", "ahead"),
            ([(A0, "same", A1)], "then up a up b", None),
            ([(A0, "same", A1), (B1, "less", B0)], "then up a up b", "behind"),
            ([(B0, "less", B1)], "then up a up b", None),
            ([(A0, "same", A1), (B1, "same", B0)], "then up a up b", "like"),
        ])

    def test_pick_the_case_then_the_order_that_it_chooses(self):
        same = "pick same a up b down b"
        self.each([
            ([(A0, "same", A1), (B0, "less", B1)], same, "ahead"),
            ([(A0, "less", A1), (B0, "less", B1)], same, "behind"),
            ([(A0, "same", A1)], same, None),
            ([(B0, "less", B1)], "pick same a up b up b", None),
            ([], "pick same a like like", None),
            ([(A0, "same", A1)], "pick same a like up b", "like"),
            ([(A0, "less", A1)], "pick same a up b like", "like"),
        ])

    def test_a_mark_by_its_point_and_number(self):
        under = "pick both under a 1 up b down b"
        same = "pick both is a 1 up b down b"
        ahead = [(B0, "less", B1)]
        self.each([
            (ahead + [(A0, "less", num(1)), (A1, "less", num(1))], under, "ahead"),
            (ahead + [(A0, "less", num(1)), (A1, "same", num(1))], under, "behind"),
            (ahead + [(A0, "less", num(1)), (num(1), "less", A1)], under, "behind"),
            (ahead + [(A0, "same", num(1)), (A1, "same", num(1))], same, "ahead"),
            (ahead + [(A0, "same", num(1)), (A1, "less", num(1))], same, "behind"),
            (ahead + [(A0, "less", num(0)), (A1, "less", num("1/2"))], under, "ahead"),
            (ahead + [(A0, "less", num(2)), (A1, "less", num("1/2"))], under, None),
            (ahead + [(num(2), "less", A0)], under, "behind"),
            (ahead, under, None), (ahead, same, None),
        ])

    def test_one_part_that_settles_it(self):
        ahead = [(B0, "less", B1)]
        low, high = [(A0, "less", num(1))], [(num(1), "less", A1)]
        self.each([
            (ahead + high, "pick both under a 1 up b down b", "behind"),
            (ahead + low, "pick both under a 1 up b down b", None),
            (ahead + low, "pick either under a 1 up b down b", "ahead"),
            (ahead + high, "pick either under a 1 up b down b", None),
            (ahead + high, "pick not either under a 1 up b down b", None),
            (ahead + low, "pick not either under a 1 up b down b", "behind"),
            (ahead, "pick and same a same b up b down b", "behind"),
            (ahead, "pick and same b same a up b down b", "behind"),
            (ahead, "pick and same a not same b up b down b", None),
            (ahead, "pick or same a not same b up b down b", "ahead"),
            (ahead, "pick or not same b same a up b down b", "ahead"),
            (ahead, "pick or same a same b up b down b", None),
            (ahead, "pick or same b same b up b down b", "behind"),
            (ahead, "pick and not same b not same b up b down b", "ahead"),
        ])

    def test_which_two_are_looked_at(self):
        facts = [(A0, "less", A1), (A1, "less", A2)]
        for first, second in itertools.permutations(range(3), 2):
            self.assertEqual(look(facts, "up a", first, second), "ahead" if first < second else "behind")
            self.assertEqual(look(facts, "down a", first, second), "behind" if first < second else "ahead")

    def test_all_is_told_where_all_is_known(self):
        chance = random.Random(13)
        values = (-1, 0, "1/3", "1/2", 1, 2)
        for turn in range(200):
            order = some_order(chance, BOOK, NUMBERS)
            things = [thing(chance.choice(values), chance.choice(values)) for number in range(3)]
            told = told_by(all_facts(things, NUMBERS), 2)
            for first, second in itertools.permutations(range(3), 2):
                with self.subTest(order=order, things=things, first=first, second=second):
                    self.assertEqual(look_told(told, order, first, second),
                                     looked(order, BOOK, things[first], things[second]))

    def test_what_is_told_holds_of_things_of_which_the_facts_hold(self):
        chance = random.Random(14)
        values = (-1, 0, "1/3", "1/2", 1, 2)
        seen = 0
        for turn in range(400):
            order = some_order(chance, BOOK, NUMBERS)
            things = [thing(chance.choice(values), chance.choice(values)) for number in range(3)]
            facts = [fact for fact in all_facts(things, NUMBERS) if chance.randrange(3) == 0]
            other = fits(facts, 2)
            told = look_told(told_by(facts, 2), order, 0, 1)
            if told is not None and order != ("like",):
                seen += 1
                with self.subTest(order=order, facts=facts):
                    self.assertEqual(looked(order, BOOK, things[0], things[1]), told)
                    self.assertEqual(looked(order, BOOK, other[0], other[1]), told)
        self.assertGreater(seen, 100)

    def test_asked_again(self):
        told = told_by([(A0, "less", num(1)), (A1, "same", num(2))], 2)
        order = read_order("pick both under a 3/2 like up a", BOOK)
        for turn in range(3):
            self.assertEqual(look_told(told, order, 0, 1), "ahead")
            self.assertEqual(look_told(told, order, 1, 0), "behind")


if __name__ == "__main__":
    unittest.main()
