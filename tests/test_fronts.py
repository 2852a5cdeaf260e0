import itertools
import random
import unittest

from some_orders import RIGHT_TEXTS, order_of, some_right_order, some_row, thing

from ordertext.orders.looks import looked
from ordertext.rows.fronts import fronts, fronts_shown, stands_above

BOOK = ("a", "b")
BOTH = (order_of("up a"), order_of("up b"))
FAR = 10 ** 5000


def above_by_the_words(orders, one, other):
    looks = [looked(order, BOOK, one, other) for order in orders]
    return all(look != "behind" for look in looks) and any(look == "ahead" for look in looks)


def fronts_by_the_words(orders, row):
    left, told = list(range(len(row))), []
    while left:
        front = [place for place in left
                 if not any(above_by_the_words(orders, row[other], row[place]) for other in left)]
        told.append(tuple(front))
        left = [place for place in left if place not in front]
    return tuple(told)


def shown_by_the_words(orders, row, parts, chain):
    places = list(itertools.chain(*parts))
    if sorted(places) != list(range(len(row))) or any(len(part) == 0 for part in parts):
        return False
    if any(place not in range(len(row)) for place in chain) or len(parts) != len(chain):
        return False
    for part in parts:
        for one, other in itertools.permutations(part, 2):
            if above_by_the_words(orders, row[one], row[other]):
                return False
    return all(above_by_the_words(orders, row[one], row[other]) for one, other in zip(chain, chain[1:]))


def some_orders(chance):
    return tuple(order_of(text) for text in chance.sample(RIGHT_TEXTS, chance.randrange(1, 4)))


class StandsAboveTest(unittest.TestCase):
    def test_written(self):
        for one, other, told in (((1, 1), (2, 2), True), ((1, 1), (1, 2), True), ((1, 1), (1, 1), False),
                                 ((2, 2), (1, 1), False), ((1, 2), (2, 1), False), ((1, 2), (1, 1), False)):
            self.assertIs(stands_above(BOTH, BOOK, thing(*one), thing(*other)), told)

    def test_one_order_and_several(self):
        one, other = thing(1, 5), thing(2, 5)
        for texts, told in ((("up a",), True), (("down a",), False), (("up b",), False), (("like",), False),
                            (("up b", "up a"), True), (("up a", "up b", "like"), True), (("up a", "down a"), False),
                            (("like", "up a", "up a"), True), (("up b", "like"), False), (("down a", "up a"), False)):
            orders = [order_of(text) for text in texts]
            self.assertIs(stands_above(orders, BOOK, one, other), told)
            self.assertIs(stands_above(tuple(orders), BOOK, one, other), told)

    def test_any(self):
        chance = random.Random(120)
        for turn in range(300):
            orders = some_orders(chance)
            one, other = some_row(chance, 2, 4)
            self.assertIs(stands_above(orders, BOOK, one, other), above_by_the_words(orders, one, other))


class FrontsTest(unittest.TestCase):
    def right(self, orders, row):
        told = fronts(orders, BOOK, row)
        self.assertEqual([type(part) for part in (told,) + told + told[0]], [tuple] * (3 + len(told[0])))
        self.assertEqual(told[0], fronts_by_the_words(orders, row))
        self.assertEqual(len(told[1]), len(told[0]))
        for place, front in zip(told[1], told[0]):
            self.assertIn(place, front)
        for one, other in itertools.combinations(told[1], 2):
            self.assertTrue(above_by_the_words(orders, row[one], row[other]))
        self.assertIs(fronts_shown(orders, BOOK, row, told[0], told[1]), True)
        self.assertEqual(fronts(orders, BOOK, row), told)
        return told

    def test_no_things_and_one(self):
        self.assertEqual(fronts(BOTH, BOOK, ()), ((), ()))
        self.assertEqual(fronts(BOTH, BOOK, (thing(1, 1),)), (((0,),), (0,)))

    def test_written(self):
        row = (thing(3, 3), thing(1, 2), thing(2, 1), thing(1, 2), thing(4, 0), thing(4, 4))
        self.assertEqual(self.right(BOTH, row)[0], ((1, 2, 3, 4), (0,), (5,)))
        self.assertEqual(self.right(BOTH[:1], row)[0], ((1, 3), (2,), (0,), (4, 5)))
        self.assertEqual(self.right([order_of("like")], row), ((tuple(range(6)),), (0,)))
        self.assertEqual(self.right([order_of("up a"), order_of("down a")], row)[0], (tuple(range(6)),))

    def test_like_things_stand_in_one_front(self):
        row = (thing(1, 0), thing(1, 0), thing(0, 0), thing(1, 0))
        self.assertEqual(self.right(BOTH, row)[0], ((2,), (0, 1, 3)))

    def test_sixty_things(self):
        chance = random.Random(121)
        row = tuple(thing(number, number) for number in range(60))
        self.assertEqual(self.right(BOTH, row), (tuple((place,) for place in range(60)), tuple(range(60))))
        self.assertEqual(self.right(BOTH, row[::-1])[1], tuple(range(59, -1, -1)))
        self.assertEqual(len(self.right((BOTH[0], order_of("down b")), row)[0]), 1)
        for values in (3, 9, 60):
            self.right(BOTH, some_row(chance, 60, values))

    def test_any(self):
        chance = random.Random(122)
        for turn in range(200):
            row = some_row(chance, chance.randrange(10), 4)
            self.right(some_orders(chance), row)
            self.right((some_right_order(chance, BOOK, row), some_right_order(chance, BOOK, row)), row)


class FrontsShownTest(unittest.TestCase):
    def test_no_things(self):
        self.assertIs(fronts_shown(BOTH, BOOK, (), (), ()), True)
        for parts, chain in ((((),), ()), (((),), (0,)), ((), (0,)), (((0,),), (0,)), (((0,),), ()), (((), ()), (0, 0))):
            self.assertIs(fronts_shown(BOTH, BOOK, (), parts, chain), False)

    def test_written(self):
        row = (thing(1, 2), thing(2, 1), thing(3, 3))
        for parts, chain, told in ((((0, 1), (2,)), (0, 2), True), (((1, 0), (2,)), (1, 2), True),
                                   (((2,), (1, 0)), (0, 2), True), (((0, 1), (2,)), (2, 0), False),
                                   (((0, 1), (2,)), (0, 1), False), (((0,), (1,), (2,)), (0, 2), False),
                                   (((0, 2), (1,)), (0, 2), False), (((2, 0), (1,)), (0, 2), False),
                                   (((0, 1), (2,)), (0,), False), (((0, 1),), (0,), False), (((0, 1, 2),), (0,), False),
                                   (((0, 1), (2,), ()), (0, 2), False), (((0, 1, 1), (2,)), (0, 2), False),
                                   (((0, 1), (2, 1)), (0, 2), False), (((0, 1), (2,)), (0, 3), False),
                                   (((0, 1), (2,)), (-3, 2), False), (((0, 1), (-1,)), (0, 2), False),
                                   (((0, 1), (3,)), (0, 2), False), (((0, 1), (2,)), (0, -1), False),
                                   (((0, 1), (2, 3)), (0, 2), False), (((0, 1), (2,)), (FAR, 2), False),
                                   (((0, 1), (2,)), (0, 2, 2), False), (((0, 1), (2,)), (0, 0), False), ((), (), False)):
            with self.subTest(parts=parts):
                self.assertIs(fronts_shown(BOTH, BOOK, row, parts, chain), told)

    def spoilt(self, chance, parts, chain):
        parts, chain = [list(part) for part in parts], list(chain)
        part, other = chance.choice(parts), chance.choice(parts)
        place, which = chance.randrange(len(part)), chance.randrange(len(chain))
        odd = chance.choice((-1, -FAR, FAR, sum(map(len, parts)), chance.randrange(8)))
        what = chance.randrange(9)
        if what == 0:
            part.pop(place)
        elif what == 1:
            part.insert(place, part[place])
        elif what == 2:
            other.insert(0, part.pop(place))
        elif what == 3:
            parts.append([])
        elif what == 4:
            part[place] = odd
        elif what == 5:
            chain[which] = odd
        elif what == 6:
            chain.pop(which)
        elif what == 7:
            chain.insert(which, chain[which])
        else:
            chance.shuffle(parts)
            part.reverse()
        return tuple(tuple(part) for part in parts), tuple(chain)

    def test_parts_and_chains_spoilt_by_one(self):
        chance = random.Random(123)
        seen = {True: 0, False: 0}
        for turn in range(2000):
            row = some_row(chance, chance.choice((1, 2, 3, 5, 8)), 3)
            orders = some_orders(chance)
            parts, chain = self.spoilt(chance, *fronts(orders, BOOK, row))
            told = shown_by_the_words(orders, row, parts, chain)
            self.assertIs(fronts_shown(orders, BOOK, row, parts, chain), told)
            seen[told] += 1
        self.assertGreater(min(seen.values()), 200)

    def test_let_by_no_fewer_parts_do(self):
        chance = random.Random(124)
        for turn in range(30):
            row = some_row(chance, 4, 3)
            fewest = len(fronts(BOTH, BOOK, row)[0])
            for where in itertools.product(range(fewest - 1), repeat=4):
                parts = [[place for place in range(4) if where[place] == part] for part in range(fewest - 1)]
                self.assertTrue(any(above_by_the_words(BOTH, row[one], row[other])
                                    for part in parts for one, other in itertools.permutations(part, 2)))


if __name__ == "__main__":
    unittest.main()
