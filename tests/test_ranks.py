import itertools
import random
import unittest

from some_orders import RIGHT_TEXTS, in_order_by_the_book, is_one, order_of, some_right_order, some_row, thing

from ordertext.errors import NoPlace, NoRow, OrderError
from ordertext.orders.looks import looked
from ordertext.rows.ranks import at_place, first_places, first_shown
from ordertext.rows.sorts import turning

BOOK = ("a", "b")
UP = order_of("up a")
RING = (thing(0, 2), thing(1, 0), thing(2, 1))
RING_ORDER = order_of("pick either is b 0 up a up b")
FAR = 10 ** 5000


class AtPlaceTest(unittest.TestCase):
    def test_written(self):
        row = (thing(2, 0), thing(1, 5), thing(3, 1), thing(1, 4))
        self.assertEqual([at_place(UP, BOOK, row, place) for place in range(4)],
                         [(thing(1, 5), 1), (thing(1, 4), 3), (thing(2, 0), 0), (thing(3, 1), 2)])
        self.assertEqual(at_place(order_of("down a"), BOOK, row, 0), (thing(3, 1), 2))
        self.assertIs(type(at_place(UP, BOOK, row, 0)), tuple)

    def test_like_ones_as_they_stood(self):
        row = (thing(1, 1), thing(1, 0), thing(1, 1), thing(0, 0), thing(1, 1))
        self.assertEqual([at_place(UP, BOOK, row, place)[1] for place in range(5)], [3, 0, 1, 2, 4])

    def test_sixty_things(self):
        chance = random.Random(90)
        row = some_row(chance, 60, 7)
        for text in RIGHT_TEXTS:
            things = in_order_by_the_book(order_of(text), BOOK, row)
            told = [at_place(order_of(text), BOOK, row, place) for place in (0, 1, 30, 58, 59)]
            self.assertEqual([one for one, place in told], [things[place] for place in (0, 1, 30, 58, 59)])
            self.assertEqual([row[place] for one, place in told], [one for one, place in told])
            self.assertEqual([place for one, place in told],
                             [turning(order_of(text), BOOK, row)[place] for place in (0, 1, 30, 58, 59)])

    def test_places_that_there_are_not(self):
        for row in ((), RING[:1], RING):
            for place in (-1, -2, -3, -4, len(row), len(row) + 1, FAR, -FAR):
                with self.subTest(row=row):
                    self.assertRaises(NoPlace, at_place, UP, BOOK, row, place)
                    self.assertRaises(OrderError, at_place, UP, BOOK, row, place)

    def test_no_order_for_the_row(self):
        for place in range(3):
            with self.assertRaises(NoRow) as caught:
                at_place(RING_ORDER, BOOK, RING, place)
            self.assertFalse(is_one(RING_ORDER, BOOK, caught.exception.things))
        for place in (-1, 3):
            self.assertRaises(NoPlace, at_place, RING_ORDER, BOOK, RING, place)
        self.assertEqual(at_place(RING_ORDER, BOOK, RING[:2], 0), (RING[0], 0))


class FirstPlacesTest(unittest.TestCase):
    def test_written(self):
        row = (thing(2, 0), thing(1, 5), thing(3, 1), thing(1, 4))
        for many in range(5):
            self.assertEqual(first_places(UP, BOOK, row, many), (1, 3, 0, 2)[:many])
        self.assertEqual(first_places(order_of("like"), BOOK, row, 3), (0, 1, 2))
        self.assertEqual(first_places(UP, BOOK, (), 0), ())

    def test_sixty_things(self):
        row = some_row(random.Random(91), 60, 5)
        for text in RIGHT_TEXTS:
            turn = turning(order_of(text), BOOK, row)
            for many in (0, 1, 2, 17, 59, 60):
                self.assertEqual(first_places(order_of(text), BOOK, row, many), turn[:many])

    def test_so_many_are_not_there(self):
        for row in ((), RING[:1], RING):
            for many in (-1, -2, -4, len(row) + 1, len(row) + 9, FAR, -FAR):
                with self.subTest(row=row):
                    self.assertRaises(NoPlace, first_places, UP, BOOK, row, many)
                    self.assertRaises(OrderError, first_places, UP, BOOK, row, many)

    def test_no_order_for_the_row_also_where_none_are_asked_for(self):
        for many in range(4):
            with self.assertRaises(NoRow) as caught:
                first_places(RING_ORDER, BOOK, RING, many)
            self.assertFalse(is_one(RING_ORDER, BOOK, caught.exception.things))
        for many in (-1, 4):
            self.assertRaises(NoPlace, first_places, RING_ORDER, BOOK, RING, many)


class FirstShownTest(unittest.TestCase):
    def plain(self, order, row, places):
        """The words of [24], with each of the first held against each that stands behind it."""
        if len(set(places)) != len(places) or not set(places) <= set(range(len(row))):
            return False
        others = [place for place in range(len(row)) if place not in places]
        behind = [(one, other) for one, other in itertools.combinations(places, 2)]
        behind += [(one, other) for one in places for other in others]
        for one, other in behind:
            look = looked(order, BOOK, row[one], row[other])
            if look == "behind" or (look == "like" and other < one):
                return False
        return True

    def test_none_of_any(self):
        for row in ((), RING[:1], RING):
            self.assertIs(first_shown(UP, BOOK, row, ()), True)

    def test_as_told_and_spoilt_by_one(self):
        chance = random.Random(92)
        for text in RIGHT_TEXTS:
            order = order_of(text)
            row = some_row(chance, 9, 3)
            turn = turning(order, BOOK, row)
            for many in range(10):
                first = turn[:many]
                self.assertIs(first_shown(order, BOOK, row, first), True)
                spoilt = [first[:place] + first[place + 1:] for place in range(many - 1)]
                spoilt += [first[:place] + first[place:place + 1] + first[place:] for place in range(many)]
                spoilt += [first + (place,) for place in (-1, -9, 9, 10, FAR, -FAR)]
                spoilt += [(place,) + first for place in (-1, 9)]
                for one, other in itertools.combinations(range(many), 2):
                    places = list(first)
                    places[one], places[other] = places[other], places[one]
                    spoilt.append(tuple(places))
                for place, behind in itertools.product(range(many), turn[many:]):
                    spoilt.append(first[:place] + (behind,) + first[place + 1:])
                for places in spoilt:
                    with self.subTest(text=text, row=row):
                        self.assertIs(first_shown(order, BOOK, row, places), False)

    def test_like_ones_ahead_in_the_row(self):
        row = (thing(1, 0), thing(1, 1), thing(1, 2))
        for places in ((), (0,), (0, 1), (0, 1, 2)):
            self.assertIs(first_shown(UP, BOOK, row, places), True)
        for places in ((1,), (2,), (1, 0), (0, 2), (0, 2, 1), (1, 2)):
            self.assertIs(first_shown(UP, BOOK, row, places), False)

    def test_any_places(self):
        chance = random.Random(93)
        seen = {True: 0, False: 0}
        for turn in range(400):
            row = some_row(chance, chance.randrange(7), 3)
            order = some_right_order(chance, BOOK, row)
            places = tuple(chance.randrange(-1, len(row) + 1) for place in range(chance.randrange(len(row) + 2)))
            if chance.random() < 0.4:
                places = first_places(order, BOOK, row, chance.randrange(len(row) + 1))
            told = self.plain(order, row, places)
            self.assertIs(first_shown(order, BOOK, row, places), told)
            seen[told] += 1
        self.assertGreater(min(seen.values()), 100)

    def test_no_places_of_no_things(self):
        for places in ((0,), (-1,), (0, 0), (1, 2)):
            self.assertIs(first_shown(UP, BOOK, (), places), False)


if __name__ == "__main__":
    unittest.main()
