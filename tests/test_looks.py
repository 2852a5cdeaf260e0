import itertools
import random
import unittest

from some_orders import by_the_book, is_one, read_part, some_order, thing

from ordertext.orders.looks import is_order, looked
from ordertext.orders.texts import read_order

BOOK = ("a", "b")
NUMBERS = ((0, 1), (1, 2), (1, 1))
TWENTY = 98765432109876543210


def look(text, first, second, book=BOOK):
    return looked(read_order(text, book), book, first, second)


ALL_SMALL = [thing(a, b) for a in (-1, 0, "1/2", 1) for b in (0, "1/2")]


class LookedTest(unittest.TestCase):
    def each(self, cases):
        for text, first, second, told in cases:
            with self.subTest(text=text, first=first, second=second):
                self.assertEqual(look(text, first, second), told)

    def test_like_up_down(self):
        self.each([
            ("like", thing(1, 2), thing(3, 4), "like"),
            ("up a", thing(1, 2), thing(3, 2), "ahead"),
            ("up a", thing(3, 2), thing(1, 2), "behind"),
            ("up a", thing(3, 2), thing(3, 9), "like"),
            ("up b", thing(3, 2), thing(1, 9), "ahead"),
            ("down a", thing(1, 2), thing(3, 2), "behind"),
            ("down a", thing(3, 2), thing(1, 2), "ahead"),
            ("down a", thing(3, 2), thing(3, 9), "like"),
            ("up a", thing("1/3", 0), thing("1/2", 0), "ahead"),
            ("up a", thing("-1/3", 0), thing("-1/2", 0), "behind"),
        ])

    def test_then(self):
        self.each([
            ("then up a down b", thing(1, 2), thing(2, 3), "ahead"),
            ("then up a down b", thing(2, 2), thing(1, 3), "behind"),
            ("then up a down b", thing(1, 2), thing(1, 3), "behind"),
            ("then up a down b", thing(1, 2), thing(1, 2), "like"),
            ("then like up a", thing(1, 2), thing(2, 2), "ahead"),
        ])

    def test_turn(self):
        self.each([
            ("turn up a", thing(1, 2), thing(3, 2), "behind"),
            ("turn up a", thing(3, 2), thing(1, 2), "ahead"),
            ("turn up a", thing(1, 2), thing(1, 3), "like"),
            ("turn turn up a", thing(1, 2), thing(3, 2), "ahead"),
            ("turn pick either under a 1 up a up b", thing(0, 5), thing(2, 1), "behind"),
        ])

    def test_pick_same(self):
        self.each([
            ("pick same a up b down a", thing(1, 2), thing(1, 3), "ahead"),
            ("pick same a up b down a", thing(1, 2), thing(2, 3), "behind"),
        ])

    def test_both_and_either(self):
        things = (thing(0, 1), thing(1, 2), thing(0, 3))
        both = "pick both under a 1 up b down b"
        either = "pick either under a 1 up b down b"
        self.each([
            (both, things[0], things[2], "ahead"), (both, things[0], things[1], "behind"),
            (both, things[1], things[2], "behind"), (both, thing(1, 1), thing(2, 2), "behind"),
            (either, things[0], things[2], "ahead"), (either, things[0], things[1], "ahead"),
            (either, things[1], things[2], "ahead"), (either, thing(1, 1), thing(2, 2), "behind"),
        ])

    def test_under_and_is(self):
        under = "pick both under a 1/2 up b down b"
        same = "pick both is a 1/2 up b down b"
        for value, is_under, is_it in ((0, True, False), ("1/3", True, False), ("1/2", False, True), (1, False, False)):
            pair = (thing(value, 1), thing(value, 2))
            self.each([
                (under, pair[0], pair[1], "ahead" if is_under else "behind"),
                (same, pair[0], pair[1], "ahead" if is_it else "behind"),
            ])

    def test_not_and_or(self):
        for a, b in itertools.product((0, 1), (0, 1)):
            first, second = thing(0, 0, 0), thing(a, b, 1)
            for word, told in (("and", a == 0 and b == 0), ("or", a == 0 or b == 0)):
                with self.subTest(word=word, a=a, b=b):
                    text = f"pick {word} same a same b up c down c"
                    self.assertEqual(look(text, first, second, ("a", "b", "c")), "ahead" if told else "behind")
            text = "pick not same a up c down c"
            self.assertEqual(look(text, first, second, ("a", "b", "c")), "ahead" if a else "behind")

    def test_great_numbers_near_together(self):
        near = (f"{TWENTY}/{TWENTY + 1}", f"{TWENTY + 1}/{TWENTY + 2}")
        self.each([
            ("up a", thing(near[0], 0), thing(near[1], 0), "ahead"),
            ("up a", thing(near[1], 0), thing(near[0], 0), "behind"),
            (f"pick both under a {near[1]} up b down b", thing(near[0], 0), thing(near[0], 1), "ahead"),
            (f"pick both under a {near[0]} up b down b", thing(near[1], 0), thing(near[1], 1), "behind"),
        ])

    def test_any_order_by_the_words_of_the_document(self):
        chance = random.Random(7)
        for turn in range(400):
            order = some_order(chance, BOOK, NUMBERS)
            part = read_part(list(order))
            for first, second in itertools.product(chance.sample(ALL_SMALL, 4), repeat=2):
                with self.subTest(order=order, first=first, second=second):
                    self.assertEqual(looked(order, BOOK, first, second), by_the_book(part, BOOK, first, second))

    def test_one_and_the_same_thing(self):
        chance = random.Random(8)
        for turn in range(100):
            order = some_order(chance, BOOK, NUMBERS)
            for one in ALL_SMALL:
                self.assertEqual(looked(order, BOOK, one, one), "like")

    def test_as_many_words_as_there_may_be_and_more(self):
        for many in (39, 40, 1000):
            order = many * ("turn",) + ("up", "a")
            self.assertEqual(looked(order, BOOK, thing(1, 0), thing(2, 0)), "behind" if many % 2 else "ahead")
            order = ("pick",) + many * ("not",) + ("same", "a", "up", "b", "down", "b")
            self.assertEqual(looked(order, BOOK, thing(1, 1), thing(1, 2)), "behind" if many % 2 else "ahead")


class IsOrderTest(unittest.TestCase):
    def told(self, text, things):
        return is_order(read_order(text, BOOK), BOOK, things)

    def test_ones(self):
        for text in ("like", "up a", "down b", "then up a down b", "turn then down a up b", "pick same a up b up a",
                     "pick both under a 1/2 up b pick either under a 1/2 up a down b"):
            with self.subTest(text=text):
                self.assertIs(self.told(text, ALL_SMALL), True)

    def test_none_for_three(self):
        ring = (thing(0, 1), thing(1, 0), thing(2, 2))
        text = "pick either is b 0 up a up b"
        self.assertEqual([look(text, *pair) for pair in ((ring[0], ring[1]), (ring[1], ring[2]), (ring[0], ring[2]))],
                         ["ahead", "ahead", "ahead"])
        self.assertIs(self.told(text, ring), True)
        ring = (thing(0, 2), thing(1, 0), thing(2, 1))
        self.assertEqual([look(text, *pair) for pair in ((ring[0], ring[1]), (ring[1], ring[2]), (ring[0], ring[2]))],
                         ["ahead", "ahead", "behind"])
        self.assertIs(self.told(text, ring), False)
        for pair in itertools.combinations(ring, 2):
            self.assertIs(self.told(text, pair), True)

    def test_like_only_where_all_three_are(self):
        text = "pick either is a 0 like up b"
        things = (thing(1, 1), thing(0, 5), thing(1, 2))
        self.assertEqual(look(text, things[0], things[1]), "like")
        self.assertEqual(look(text, things[1], things[2]), "like")
        self.assertEqual(look(text, things[0], things[2]), "ahead")
        for row in itertools.permutations(things):
            self.assertIs(self.told(text, row), False)

    def test_ahead_then_like_is_not_like(self):
        text = "pick and either is a 0 either is a 2 like up a"
        things = (thing(0, 0), thing(1, 0), thing(2, 0))
        for row in itertools.permutations(things):
            self.assertIs(self.told(text, row), False)

    def test_no_things_and_one(self):
        for text in ("like", "up a", "pick either is b 0 up a up b"):
            self.assertIs(self.told(text, ()), True)
            self.assertIs(self.told(text, []), True)
            self.assertIs(self.told(text, [thing(0, 0)]), True)

    def test_things_that_come_twice(self):
        ring = (thing(0, 2), thing(1, 0), thing(2, 1))
        text = "pick either is b 0 up a up b"
        self.assertIs(self.told(text, ring + ring), False)
        self.assertIs(self.told(text, ring[:2] + ring[:2] + ring[:1]), True)
        self.assertIs(self.told("up a", ring + ring), True)

    def test_a_list_or_a_tuple_left_as_it_is(self):
        ring = [thing(0, 2), thing(1, 0), thing(2, 1)]
        before = list(ring)
        self.assertIs(self.told("pick either is b 0 up a up b", ring), False)
        self.assertEqual(ring, before)
        self.assertIs(self.told("pick either is b 0 up a up b", tuple(ring)), False)

    def test_any_order_by_the_words_of_the_document(self):
        chance = random.Random(9)
        seen = {True: 0, False: 0}
        for turn in range(500):
            order = ("pick",)
            for kind in ("case", "order", "order"):
                order += some_order(chance, BOOK, NUMBERS, kind, 2)
            things = [chance.choice(ALL_SMALL) for place in range(chance.randrange(7))]
            with self.subTest(order=order, things=things):
                told = is_one(order, BOOK, things)
                self.assertIs(is_order(order, BOOK, things), told)
                seen[told] += 1
        self.assertGreater(min(seen.values()), 20)

    def test_sixty_things(self):
        things = [thing(number % 7, number) for number in range(60)]
        self.assertIs(self.told("then up a down b", things), True)
        self.assertIs(self.told("pick either is a 0 up b up a", things), False)


if __name__ == "__main__":
    unittest.main()
