import random
import unittest

from some_orders import RIGHT_TEXTS, CountingBook, bits, in_order_by_the_book, order_of, some_right_order, some_row, thing

from ordertext.errors import NoPlace, OrderError
from ordertext.orders.looks import looked
from ordertext.rows.kept import Kept
from ordertext.rows.sorts import turned, turning

BOOK = ("a", "b")
UP = order_of("up a")
FAR = 10 ** 5000


def kept_of(text, *things):
    kept = Kept(order_of(text), BOOK)
    for one in things:
        kept.put(one)
    return kept


class PutAndTakeTest(unittest.TestCase):
    def test_behind_those_ahead_and_like(self):
        kept = Kept(UP, BOOK)
        things = (thing(2, 0), thing(1, 0), thing(3, 0), thing(2, 1), thing(1, 1), thing(2, 0))
        self.assertEqual([kept.put(one) for one in things], [0, 0, 2, 2, 1, 4])
        self.assertEqual(kept.part(0, 6), (thing(1, 0), thing(1, 1), thing(2, 0), thing(2, 1), thing(2, 0), thing(3, 0)))
        self.assertEqual(kept.many(), 6)

    def test_the_same_thing_twice(self):
        kept = kept_of("up a", thing(1, 1), thing(1, 1))
        self.assertEqual((kept.many(), kept.part(0, 9)), (2, (thing(1, 1), thing(1, 1))))
        self.assertEqual(kept.counts(thing(1, 1)), (0, 2))
        self.assertEqual(kept.take(0), thing(1, 1))
        self.assertEqual((kept.many(), kept.at(0)), (1, thing(1, 1)))

    def test_take(self):
        kept = kept_of("down a", thing(1, 0), thing(2, 0), thing(3, 0))
        self.assertEqual(kept.take(1), thing(2, 0))
        self.assertEqual(kept.part(0, 3), (thing(3, 0), thing(1, 0)))
        self.assertEqual(kept.take(1), thing(1, 0))
        self.assertEqual(kept.take(0), thing(3, 0))
        self.assertEqual((kept.many(), kept.part(0, 3)), (0, ()))
        self.assertEqual(kept.put(thing(5, 5)), 0)

    def test_places_that_there_are_not(self):
        for many in (0, 1, 3):
            kept = kept_of("up a", *[thing(number, 0) for number in range(many)])
            for place in (-1, -2, -many, -many - 1, many, many + 1, 60, FAR, -FAR):
                if not 0 <= place < many:
                    for ask in (kept.take, kept.at):
                        with self.subTest(many=many, place=place, ask=ask):
                            self.assertRaises(NoPlace, ask, place)
                            self.assertRaises(OrderError, ask, place)
                            self.assertEqual(kept.part(0, 9), tuple(thing(number, 0) for number in range(many)))

    def test_two_lists_by_themselves(self):
        one, other = kept_of("up a", thing(1, 0)), kept_of("up a", thing(2, 0))
        one.put(thing(0, 0))
        self.assertEqual((one.many(), other.many(), other.at(0)), (2, 1, thing(2, 0)))


class AskedTest(unittest.TestCase):
    def setUp(self):
        self.kept = kept_of("up a", thing(1, 0), thing(1, 1), thing(2, 0), thing(4, 0), thing(4, 1), thing(4, 2))
        self.things = self.kept.part(0, 6)

    def test_at(self):
        self.assertEqual([self.kept.at(place) for place in range(6)], list(self.things))

    def test_counts(self):
        for value, told in ((0, (0, 0)), (1, (0, 2)), ("3/2", (2, 0)), (2, (2, 1)), (3, (3, 0)), (4, (3, 3)), (5, (6, 0))):
            for other in (0, 7):
                self.assertEqual(self.kept.counts(thing(value, other)), told)
        self.assertEqual(kept_of("up a").counts(thing(1, 1)), (0, 0))
        self.assertIs(type(self.kept.counts(thing(1, 1))), tuple)

    def test_part(self):
        for first in (-FAR, -7, -6, -1, 0, 1, 3, 5, 6, 7, FAR):
            for last in (-FAR, -7, -6, -1, 0, 1, 3, 5, 6, 7, FAR):
                with self.subTest(first=first > 0, last=last > 0):
                    told = tuple(one for place, one in enumerate(self.things) if first <= place < last)
                    self.assertEqual(self.kept.part(first, last), told)
        self.assertEqual(kept_of("up a").part(0, 1), ())

    def test_between(self):
        for one, other, places in ((1, 4, (0, 6)), (0, 9, (0, 6)), (1, 1, (0, 2)), (2, 2, (2, 3)), (2, 3, (2, 3)),
                                   (3, 3, (3, 3)), ("3/2", "7/2", (2, 3)), (4, 9, (3, 6)), (-1, 0, (0, 0)),
                                   (5, 6, (6, 6)), (4, 1, (0, 0)), (2, 1, (0, 0)), (9, 0, (0, 0)), (3, "5/2", (0, 0))):
            with self.subTest(one=one, other=other):
                told = self.kept.between(thing(one, 8), thing(other, 0))
                self.assertIs(type(told), tuple)
                self.assertEqual(told, self.things[places[0]:places[1]])
        self.assertEqual(kept_of("up a").between(thing(0, 0), thing(1, 0)), ())

    def test_by_another_order_the_one_and_the_other(self):
        kept = kept_of("down a", thing(1, 0), thing(2, 0), thing(3, 0))
        self.assertEqual(kept.between(thing(3, 0), thing(2, 0)), (thing(3, 0), thing(2, 0)))
        self.assertEqual(kept.between(thing(2, 0), thing(3, 0)), ())

    def test_asking_changes_nothing(self):
        self.kept.counts(thing(3, 3))
        self.kept.between(thing(0, 0), thing(3, 3))
        self.kept.part(1, 2)
        self.kept.at(1)
        self.assertEqual((self.kept.many(), self.kept.part(0, 9)), (6, self.things))


class LooksTest(unittest.TestCase):
    def test_none_ahead_of_any_deed(self):
        kept = Kept(UP, BOOK)
        self.assertEqual(kept.looks(), 0)
        self.assertRaises(NoPlace, kept.take, 0)
        self.assertEqual((kept.many(), kept.part(0, 1), kept.looks()), (0, (), 0))

    def test_of_the_last_deed_alone(self):
        kept = kept_of("up a", thing(1, 0), thing(2, 0))
        self.assertEqual(kept.looks(), 1)
        kept.counts(thing(1, 0))
        looks = kept.looks()
        self.assertGreater(looks, 1)
        for ask in (lambda: kept.at(0), lambda: kept.part(0, 2), kept.many, kept.looks, lambda: kept.take(1)):
            ask()
            self.assertEqual(kept.looks(), looks)
        self.assertRaises(NoPlace, kept.at, 7)
        self.assertEqual(kept.looks(), looks)
        kept.take(0)
        kept.put(thing(1, 0))
        self.assertEqual(kept.looks(), 0)

    def test_each_look_is_counted_and_they_are_few(self):
        for order in (("up", "a"), ("down", "a")):
            book = CountingBook(BOOK)
            kept = Kept(order, book)
            for turn in range(60):
                for deed in (kept.counts, lambda one: kept.between(one, one), kept.put,
                             lambda one: kept.between(one, thing(30, 0)), kept.counts):
                    many = kept.many()
                    book.asked = 0
                    deed(thing(turn * 7 % 30, turn))
                    self.assertEqual(kept.looks(), book.asked)
                    self.assertLessEqual(kept.looks(), 2 * bits(many) + 2)


class BehindEachDeedTest(unittest.TestCase):
    def deed(self, chance, kept, row):
        many = len(row)
        if many < 60 and chance.random() < 0.6:
            one = some_row(chance, 1, 5)[0]
            place = kept.put(one)
            self.assertLessEqual(kept.looks(), 2 * bits(many) + 2)
            row.insert(place, one)
        elif many > 0:
            place = chance.randrange(many)
            self.assertEqual(kept.take(place), row.pop(place))

    def asked(self, chance, order, kept, row):
        one, other = some_row(chance, 2, 5)
        looks = [looked(order, BOOK, place, one) for place in row]
        self.assertEqual(kept.counts(one), (looks.count("ahead"), looks.count("like")))
        self.assertLessEqual(kept.looks(), 2 * bits(len(row)) + 2)
        within = [place for place in row if looked(order, BOOK, place, one) != "ahead"]
        within = [place for place in within if looked(order, BOOK, place, other) != "behind"]
        self.assertEqual(kept.between(one, other), tuple(within))
        self.assertLessEqual(kept.looks(), 2 * bits(len(row)) + 2)

    def test_all_put_in_order_afresh(self):
        chance = random.Random(80)
        for text in RIGHT_TEXTS:
            order, row = order_of(text), []
            kept = Kept(order, BOOK)
            for turn in range(150):
                self.deed(chance, kept, row)
                self.assertEqual((kept.many(), kept.part(0, 99)), (len(row), tuple(row)))
                self.assertEqual(in_order_by_the_book(order, BOOK, tuple(row)), tuple(row))
                self.asked(chance, order, kept, row)

    def test_put_one_behind_the_other_a_row_is_as_put_in_order_at_once(self):
        chance = random.Random(81)
        for turn in range(60):
            row = some_row(chance, chance.randrange(15), 4)
            order = some_right_order(chance, BOOK, row)
            kept = Kept(order, BOOK)
            for one in row:
                kept.put(one)
            self.assertEqual(kept.part(0, 15), turned(row, turning(order, BOOK, row)))

    def test_what_was_told_stays(self):
        kept = kept_of("up a", thing(1, 0), thing(2, 0))
        told = (kept.part(0, 2), kept.between(thing(0, 0), thing(9, 0)), kept.counts(thing(1, 0)))
        kept.put(thing(0, 0))
        kept.take(2)
        self.assertEqual(told, ((thing(1, 0), thing(2, 0)), (thing(1, 0), thing(2, 0)), (0, 1)))


if __name__ == "__main__":
    unittest.main()
