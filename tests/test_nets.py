import itertools
import random
import unittest

from some_orders import order_of, thing

from ordertext.errors import NoNet, OrderError
from ordertext.looks.nets import beats, led, net_for, smaller
from ordertext.orders.looks import looked

BOOK = ("a", "b")
MOST = (0, 0, 1, 3, 5, 9, 12, 16, 19)
BUBBLES = ((0, 1), (1, 2), (2, 3), (0, 1), (1, 2), (0, 1))


def plain_led(net, row):
    row = list(row)
    for one, other in net:
        if row[one] > row[other]:
            row[one], row[other] = row[other], row[one]
    return row


def plain_beats(net, many):
    for row in itertools.product((0, 1), repeat=many):
        if plain_led(net, row) != sorted(row):
            return row
    return None


class LedTest(unittest.TestCase):
    def test_pair_by_pair(self):
        x, y, z = thing(1, 3), thing(2, 2), thing(3, 1)
        self.assertEqual(led(order_of("up a"), BOOK, ((0, 1),), (y, x)), (x, y))
        self.assertEqual(led(order_of("up a"), BOOK, ((0, 1),), (x, y)), (x, y))
        self.assertEqual(led(order_of("down a"), BOOK, ((0, 1),), (x, y)), (y, x))
        self.assertEqual(led(order_of("up a"), BOOK, ((0, 1), (1, 2)), (z, y, x)), (y, x, z))
        self.assertEqual(led(order_of("up a"), BOOK, ((1, 2), (0, 1)), (z, y, x)), (x, z, y))
        self.assertEqual(led(order_of("up b"), BOOK, ((0, 2),), (x, y, z)), (z, y, x))

    def test_like_things_are_not_exchanged(self):
        x, y = thing(1, 1), thing(1, 2)
        self.assertEqual(led(order_of("up a"), BOOK, ((0, 1),), (x, y)), (x, y))
        self.assertEqual(led(order_of("up a"), BOOK, ((0, 1),), (y, x)), (y, x))
        self.assertEqual(led(order_of("like"), BOOK, BUBBLES, (y, x, y, x)), (y, x, y, x))

    def test_no_pairs_and_no_things(self):
        self.assertEqual(led(order_of("up a"), BOOK, (), ()), ())
        self.assertEqual(led(order_of("up a"), BOOK, (), (thing(2, 0), thing(1, 0))), (thing(2, 0), thing(1, 0)))

    def test_a_right_net_puts_rows_in_order(self):
        chance = random.Random(60)
        for many in range(9):
            for text in ("up a", "then down b up a", "pick both under a 2 up b pick either under a 2 up a down b"):
                row = tuple(thing(chance.randrange(5), chance.randrange(5)) for place in range(many))
                told = led(order_of(text), BOOK, net_for(many), row)
                self.assertIs(type(told), tuple)
                self.assertEqual(sorted(told), sorted(row))
                for one, other in zip(told, told[1:]):
                    self.assertNotEqual(looked(order_of(text), BOOK, one, other), "behind")

    def test_each_row_of_unlike_things(self):
        for many in range(6):
            things = tuple(thing(number, 0) for number in range(many))
            for row in itertools.permutations(things):
                self.assertEqual(led(order_of("up a"), BOOK, net_for(many), row), things)


class BeatsTest(unittest.TestCase):
    def test_right_nets(self):
        for net, many in (((), 0), ((), 1), (((0, 1),), 2), (((0, 1), (1, 2), (0, 1)), 3), (BUBBLES, 4),
                          (((0, 1), (0, 1)), 2)):
            self.assertIsNone(beats(net, many))

    def test_the_first_row_that_is_left(self):
        self.assertEqual(beats((), 2), (1, 0))
        self.assertEqual(beats((), 3), (0, 1, 0))
        self.assertEqual(beats(((1, 2),), 3), (1, 0, 0))
        self.assertEqual(beats(((0, 1), (1, 2)), 3), (1, 1, 0))
        self.assertEqual(beats((), 8), (0, 0, 0, 0, 0, 0, 1, 0))
        self.assertIs(type(beats((), 2)), tuple)

    def test_any_nets_by_each_row(self):
        chance = random.Random(61)
        seen = {True: 0, False: 0}
        for turn in range(300):
            many = chance.randrange(9)
            pairs = list(itertools.combinations(range(many), 2))
            net = tuple(chance.choice(pairs) for pair in range(chance.choice((4, 20, 60)))) if pairs else ()
            told = plain_beats(net, many)
            with self.subTest(net=net, many=many):
                self.assertEqual(beats(net, many), told)
            seen[told is None] += 1
        self.assertGreater(min(seen.values()), 40)

    def test_a_net_without_one_of_its_pairs(self):
        for many in range(2, 9):
            net = net_for(many)
            for place in range(len(net)):
                less = net[:place] + net[place + 1:]
                self.assertEqual(beats(less, many), plain_beats(less, many))


class NetForTest(unittest.TestCase):
    def test_right_and_small(self):
        for many in range(9):
            with self.subTest(many=many):
                net = net_for(many)
                self.assertIs(type(net), tuple)
                self.assertLessEqual(len(net), MOST[many])
                for pair in net:
                    self.assertIs(type(pair), tuple)
                    self.assertTrue(0 <= pair[0] < pair[1] < many)
                self.assertIsNone(plain_beats(net, many))
                self.assertIsNone(beats(net, many))
                self.assertEqual(net_for(many), net)


class SmallerTest(unittest.TestCase):
    def plain_smaller(self, net, many):
        used = set()
        for row in itertools.product((0, 1), repeat=many):
            row = list(row)
            for place, (one, other) in enumerate(net):
                if row[one] > row[other]:
                    row[one], row[other] = row[other], row[one]
                    used.add(place)
        return tuple(pair for place, pair in enumerate(net) if place in used)

    def test_pairs_that_exchange_in_no_row_are_left_out(self):
        self.assertEqual(smaller(((0, 1), (0, 1)), 2), ((0, 1),))
        self.assertEqual(smaller(((0, 1), (1, 2), (0, 1), (0, 2), (1, 2)), 3), ((0, 1), (1, 2), (0, 1)))
        self.assertEqual(smaller((), 0), ())
        self.assertEqual(smaller((), 1), ())
        self.assertEqual(smaller(BUBBLES, 4), BUBBLES)

    def test_nets_that_are_small_stay(self):
        for many in range(9):
            self.assertEqual(smaller(net_for(many), many), self.plain_smaller(net_for(many), many))

    def test_any_right_nets(self):
        chance = random.Random(62)
        for turn in range(60):
            many = chance.randrange(2, 9)
            pairs = list(itertools.combinations(range(many), 2))
            net = tuple(chance.choice(pairs) for pair in range(20)) + net_for(many)
            net += tuple(chance.choice(pairs) for pair in range(5))
            told = smaller(net, many)
            self.assertIs(type(told), tuple)
            self.assertEqual(told, self.plain_smaller(net, many))
            self.assertLessEqual(len(told), len(net) - 5)
            self.assertIsNone(plain_beats(told, many))

    def test_a_net_that_is_not_right(self):
        for net, many in (((), 2), (((0, 1), (1, 2)), 3), (BUBBLES[:5], 4), (net_for(8)[:18], 8)):
            self.assertRaises(NoNet, smaller, net, many)
            self.assertRaises(OrderError, smaller, net, many)


if __name__ == "__main__":
    unittest.main()
