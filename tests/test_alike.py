import itertools
import random
import unittest

from some_orders import by_the_book, grid, read_part, some_order
from some_papers import plain_alike_shown

from ordertext.cases.alike import alike
from ordertext.cases.looker import alike_shown_by
from ordertext.orders.looks import looked
from ordertext.orders.texts import read_order

BOOK = ("a", "b", "c")
TWENTY = 98765432109876543210

ALIKE = (
    ("like", "turn like"), ("up a", "turn down a"), ("then up a like", "up a"), ("then like up b", "up b"),
    ("then up a then up b up c", "then then up a up b up c"), ("turn then up a up b", "then down a down b"),
    ("pick same a up b up a", "then up a up b"), ("pick not same a up a up b", "pick same a up b up a"),
    ("pick both under a 1 up b up c", "pick not both under a 1 up c up b"),
    ("pick and same a same b like up c", "pick not or not same a not same b like up c"),
    ("pick either is a 1 up b up c", "pick or both is a 1 either is a 1 up b up c"),
    ("pick and both under a 1 both is a 2 down c up c", "up c"),
    ("pick same a pick same a up b down c up c", "pick same a up b up c"),
    ("then up a pick same a up b down b", "then up a up b"),
    ("pick both is a 1/3 up a up b", "pick both is a 1/3 like up b"),
)
PARTED = (
    ("like", "up a"), ("up a", "down a"), ("up a", "up b"), ("then up a up b", "then up b up a"),
    ("pick both under a 1 up b up c", "pick either under a 1 up b up c"),
    ("pick both under a 1 up b up c", "pick both is a 1 up b up c"),
    ("pick both is a 1 up b down b", "pick either is a 1 up b down b"),
    ("pick same a up b down b", "pick not same a up b down b"),
    ("pick and same a same b up c like", "pick or same a same b up c like"),
    (f"pick both under a {TWENTY}/{TWENTY + 1} up b like", f"pick both under a {TWENTY + 1}/{TWENTY + 2} up b like"),
    ("pick both is a 0 up a up b", "up b"),
)


class AlikeTest(unittest.TestCase):
    def alike(self, one, other, book):
        told = alike(one, other, book)
        self.assertIs(type(told), tuple)
        self.assertEqual(told[0], "alike", (one, other))
        self.assertIs(type(told[1]), tuple)
        self.assertIs(alike_shown_by(one, other, book, told[1]), True)
        return told[1]

    def parted(self, one, other, book):
        told = alike(one, other, book)
        self.assertEqual(told[0], "parted", (one, other))
        self.assertIs(type(told[1]), tuple)
        self.assertEqual([len(thing) for thing in told[1]], [len(book)] * 2)
        looks = [by_the_book(read_part(list(order)), book, *told[1]) for order in (one, other)]
        self.assertNotEqual(looks[0], looks[1])

    def each(self, pairs, say):
        for texts in pairs:
            with self.subTest(texts=texts):
                one, other = [read_order(text, BOOK) for text in texts]
                say(one, other)
                say(other, one)

    def test_alike(self):
        def say(one, other):
            paper = self.alike(one, other, BOOK)
            self.assertIs(plain_alike_shown(one, other, BOOK, paper), True)
        self.each(ALIKE, say)

    def test_parted(self):
        self.each(PARTED, lambda one, other: self.parted(one, other, BOOK))

    def test_one_and_the_same(self):
        for pair in ALIKE + PARTED:
            for text in pair:
                order = read_order(text, BOOK)
                self.alike(order, order, BOOK)

    def test_orders_that_are_ones_for_no_row_are_compared_too(self):
        one = read_order("pick either is b 0 up a up b", BOOK)
        self.alike(one, ("turn", "turn") + one, BOOK)
        self.parted(one, ("turn",) + one, BOOK)

    def test_nothing_to_split(self):
        self.assertEqual(alike(("like",), ("turn", "like"), ("a",)), ("alike", (("end",),)))

    def test_no_point_of_a_third_thing(self):
        for texts in ALIKE[:8]:
            one, other = [read_order(text, BOOK) for text in texts]
            for knot in alike(one, other, BOOK)[1]:
                for point in knot[1:3]:
                    self.assertTrue(point[0] == "number" or point[1] < 2)

    def test_by_trying_things(self):
        for chance, book, numbers, least in ((random.Random(40), ("a",), [(0, 1), (1, 2)], 15),
                                             (random.Random(41), ("a", "b"), [(0, 1)], 15)):
            things = grid(numbers, len(book), 2)
            seen = {"alike": 0, "parted": 0}
            for turn in range(60):
                one = ("pick",)
                for kind in ("case", "order", "order"):
                    one += some_order(chance, book, numbers, kind, 1)
                other = chance.choice([("turn", "turn") + one, some_order(chance, book, numbers, deep=2),
                                       ("pick",) + one[1:-1] + (chance.choice(book) if one[-1] in book else one[-1],)])
                told = alike(one, other, book)[0]
                same = all(looked(one, book, *pair) == looked(other, book, *pair)
                           for pair in itertools.product(things, repeat=2))
                with self.subTest(one=one, other=other):
                    self.assertEqual(told == "alike", same)
                    self.alike(one, other, book) if same else self.parted(one, other, book)
                seen[told] += 1
            self.assertGreater(min(seen.values()), least)

    def test_as_great_as_orders_may_be(self):
        one = read_order("pick and either under c 1 or same b and either is b 1 not not either is c 0 down a down a", BOOK)
        other = read_order("pick or both under a 4 or same c or both is b 5 either is c 6 then like down a down a", BOOK)
        self.alike(one, other, BOOK)
        self.parted(one, ("turn",) + other, BOOK)

    def test_the_same_asked_again(self):
        for texts in ALIKE[:6] + PARTED[:4]:
            one, other = [read_order(text, BOOK) for text in texts]
            self.assertEqual(alike(one, other, BOOK), alike(one, other, BOOK))


if __name__ == "__main__":
    unittest.main()
