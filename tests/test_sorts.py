import itertools
import random
import unittest

from some_orders import is_one, order_of, some_order, thing

from ordertext.errors import NoRow, OrderError
from ordertext.orders.looks import is_order, looked
from ordertext.rows.sorts import back, crossed, turned, turning

BOOK = ("a", "b")
NUMBERS = ((0, 1), (1, 2), (1, 1))
RING = (thing(0, 2), thing(1, 0), thing(2, 1))
RING_TEXT = "pick either is b 0 up a up b"


def each_pair(order, row):
    """The pairs of places of which the later one's thing goes ahead, looked at each by each."""
    pairs = itertools.combinations(range(len(row)), 2)
    return len([pair for pair in pairs if looked(order, BOOK, row[pair[1]], row[pair[0]]) == "ahead"])


class TurningTest(unittest.TestCase):
    def in_order(self, order, row):
        turn = turning(order, BOOK, row)
        self.assertIs(type(turn), tuple)
        self.assertEqual(sorted(turn), list(range(len(row))))
        for one, other in zip(turn, turn[1:]):
            look = looked(order, BOOK, row[one], row[other])
            self.assertTrue(look == "ahead" or (look == "like" and one < other), (turn, one, other))
        return turn

    def test_written_rows(self):
        row = (thing(2, 0), thing(1, 5), thing(3, 1), thing(1, 4))
        for text, turn in (("up a", (1, 3, 0, 2)), ("down a", (2, 0, 1, 3)), ("up b", (0, 2, 3, 1)),
                           ("like", (0, 1, 2, 3)), ("then up a up b", (3, 1, 0, 2)), ("turn up b", (1, 3, 2, 0)),
                           ("pick both under a 2 up b up a", (3, 1, 0, 2))):
            with self.subTest(text=text):
                self.assertEqual(turning(order_of(text), BOOK, row), turn)

    def test_no_thing_and_one(self):
        for text in ("like", "up a", RING_TEXT):
            self.assertEqual(turning(order_of(text), BOOK, ()), ())
            self.assertEqual(turning(order_of(text), BOOK, (thing(1, 1),)), (0,))

    def test_like_things_as_they_stood(self):
        row = tuple(thing(number % 2, number) for number in range(8))
        self.assertEqual(turning(order_of("up a"), BOOK, row), (0, 2, 4, 6, 1, 3, 5, 7))
        self.assertEqual(turning(order_of("down a"), BOOK, row), (1, 3, 5, 7, 0, 2, 4, 6))

    def test_the_same_thing_twice(self):
        row = (thing(2, 0), thing(1, 0), thing(2, 0), thing(1, 0), thing(2, 0))
        self.assertEqual(turning(order_of("up a"), BOOK, row), (1, 3, 0, 2, 4))
        self.assertEqual(turning(order_of("down a"), BOOK, row), (0, 2, 4, 1, 3))
        self.assertEqual(turning(order_of(RING_TEXT), BOOK, RING[:2] * 2), (0, 2, 1, 3))

    def test_sixty_things(self):
        chance = random.Random(50)
        row = tuple(thing(chance.randrange(7), chance.randrange(-20, 20)) for place in range(60))
        for text in ("up a", "then down a up b", "pick same a down b up a", "turn then up b up a"):
            self.in_order(order_of(text), row)

    def test_an_order_of_forty_words(self):
        order = order_of("turn " * 35 + "then up a down b")
        self.assertEqual(len(order), 40)
        self.in_order(order, tuple(thing(number * 7 % 5, number) for number in range(60)))

    def test_any_order(self):
        chance = random.Random(51)
        seen = {True: 0, False: 0}
        for turn in range(300):
            order = ("pick",)
            for kind in ("case", "order", "order"):
                order += some_order(chance, BOOK, NUMBERS, kind, 2)
            row = tuple(thing(chance.choice((-1, 0, "1/2", 1)), chance.choice((0, "1/2", 2)))
                        for place in range(chance.randrange(9)))
            told = is_order(order, BOOK, row)
            with self.subTest(order=order, row=row):
                if told:
                    self.in_order(order, row)
                    self.assertEqual(crossed(order, BOOK, row), each_pair(order, row))
                else:
                    for ask in (turning, crossed):
                        with self.assertRaises(NoRow) as caught:
                            ask(order, BOOK, row)
                        self.shown(order, row, caught.exception.things)
            seen[told] += 1
        self.assertGreater(min(seen.values()), 20)

    def shown(self, order, row, things):
        self.assertIs(type(things), tuple)
        self.assertIn(len(things), (2, 3))
        for one in things:
            self.assertIn(one, row)
        self.assertFalse(is_one(order, BOOK, things))

    def test_refused(self):
        rest = tuple(thing(number + 5, number + 5) for number in range(40))
        for text, row in ((RING_TEXT, RING), (RING_TEXT, RING[::-1]), (RING_TEXT, RING + RING), (RING_TEXT, RING + rest),
                          (RING_TEXT, rest + RING), ("turn " + RING_TEXT, rest[:20] + RING + rest[20:]),
                          (RING_TEXT, RING[:1] + rest + RING[1:2] + RING[:2] + RING[2:]),
                          ("pick either is a 0 like up b", (thing(1, 1), thing(0, 5), thing(1, 2))),
                          ("pick and either is a 0 either is a 2 like up a", (thing(0, 0), thing(1, 0), thing(2, 0)))):
            for ask in (turning, crossed):
                with self.subTest(text=text, row=row, ask=ask), self.assertRaises(NoRow) as caught:
                    ask(order_of(text), BOOK, row)
                self.assertIsInstance(caught.exception, OrderError)
                self.shown(order_of(text), row, caught.exception.things)

    def test_one_for_the_row_though_not_for_all(self):
        for row in (RING[:2], RING[1:], RING[::2], RING[:2] + RING[:2]):
            self.in_order(order_of(RING_TEXT), row)
            self.assertEqual(crossed(order_of(RING_TEXT), BOOK, row), each_pair(order_of(RING_TEXT), row))

    def test_the_same_asked_again(self):
        for turn in range(2):
            self.assertEqual(turning(order_of("up a"), BOOK, RING), (0, 1, 2))
        kept = []
        for turn in range(2):
            with self.assertRaises(NoRow) as caught:
                turning(order_of(RING_TEXT), BOOK, RING)
            kept.append(caught.exception.things)
        self.assertEqual(kept[0], kept[1])


class BackAndTurnedTest(unittest.TestCase):
    def test_written(self):
        self.assertEqual(back((1, 3, 0, 2)), (2, 0, 3, 1))
        self.assertEqual(turned(("x", "y", "z", "w"), (1, 3, 0, 2)), ("y", "w", "x", "z"))
        self.assertEqual((back(()), turned((), ())), ((), ()))
        self.assertEqual((back((0,)), turned((thing(1, 2),), (0,))), ((0,), (thing(1, 2),)))

    def test_there_and_back(self):
        row = (thing(0, 0), thing(1, 0), thing(2, 0), thing(2, 0), thing(3, 3))
        for turn in itertools.permutations(range(5)):
            self.assertIs(type(back(turn)), tuple)
            self.assertEqual(turned(turned(row, turn), back(turn)), row)
            self.assertEqual(turned(turned(row, back(turn)), turn), row)
            self.assertEqual(back(back(turn)), turn)

    def test_turned_by_its_turning_a_row_is_in_order(self):
        chance = random.Random(52)
        row = tuple(thing(chance.randrange(9), chance.randrange(9)) for place in range(60))
        order = order_of("then down b up a")
        self.assertEqual(turning(order, BOOK, turned(row, turning(order, BOOK, row))), tuple(range(60)))


class CrossedTest(unittest.TestCase):
    def test_written(self):
        row = (thing(2, 0), thing(1, 5), thing(3, 1), thing(1, 4))
        for text, many in (("up a", 3), ("down a", 2), ("up b", 2), ("like", 0), ("turn up b", 4)):
            self.assertEqual(crossed(order_of(text), BOOK, row), many)

    def test_no_thing_one_and_like_ones(self):
        self.assertEqual(crossed(order_of("up a"), BOOK, ()), 0)
        self.assertEqual(crossed(order_of("up a"), BOOK, (thing(1, 1),)), 0)
        self.assertEqual(crossed(order_of("up a"), BOOK, (thing(1, 1), thing(1, 0)) * 5), 0)

    def test_by_counting_each_pair(self):
        chance = random.Random(53)
        for many in (2, 3, 7, 20, 60):
            row = tuple(thing(chance.randrange(6), chance.randrange(6)) for place in range(many))
            for text in ("up a", "down b", "then up a down b", "pick same b up a down b"):
                with self.subTest(text=text, many=many):
                    self.assertEqual(crossed(order_of(text), BOOK, row), each_pair(order_of(text), row))

    def test_all_crossed(self):
        row = tuple(thing(60 - number, 0) for number in range(60))
        self.assertEqual(crossed(order_of("up a"), BOOK, row), 60 * 59 // 2)
        self.assertEqual(crossed(order_of("down a"), BOOK, row), 0)


if __name__ == "__main__":
    unittest.main()
