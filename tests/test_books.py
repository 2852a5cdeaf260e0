import random
import unittest

from some_orders import RIGHT_TEXTS, fraction_of, in_order_by_the_book, order_of, some_row, thing

from ordertext.errors import NoField, NoThing, OrderError
from ordertext.orders.looks import looked
from ordertext.rows.books import Shelf
from ordertext.rows.sorts import turning

BOOK = ("a", "b")
UP = order_of("up a")
FAR = 10 ** 5000


def shelf_of(texts, *things):
    shelf = Shelf([order_of(text) for text in texts], BOOK)
    for one in things:
        shelf.put(one)
    return shelf


class DeedsTest(unittest.TestCase):
    def test_numbers_are_given_from_0_on_and_never_again(self):
        shelf = shelf_of(("up a",))
        self.assertEqual([shelf.put(thing(5, 0)), shelf.put(thing(5, 0)), shelf.put(thing(1, 0))], [0, 1, 2])
        shelf.take(2)
        self.assertEqual(shelf.put(thing(5, 0)), 3)
        for number in (0, 1, 3):
            shelf.take(number)
        self.assertEqual(shelf.numbers(0), [])
        self.assertEqual((shelf.put(thing(1, 0)), shelf.numbers(0)), (4, [4]))

    def test_what_deeds_tell(self):
        shelf = shelf_of(("up a",), thing(1, 2), thing(3, 4))
        self.assertIsNone(shelf.change(0, "b", (1, 2)))
        self.assertIsNone(shelf.take(1))
        self.assertEqual(shelf.thing(0), thing(1, "1/2"))

    def test_each_order_has_its_list(self):
        shelf = shelf_of(("up a", "down a", "up b", "like", "then up b down a"),
                         thing(2, 1), thing(1, 1), thing(3, 0), thing(2, 0))
        self.assertEqual([shelf.numbers(which) for which in range(5)],
                         [[1, 0, 3, 2], [2, 0, 3, 1], [2, 3, 0, 1], [0, 1, 2, 3], [2, 3, 0, 1]])
        self.assertEqual([shelf.place(which, 0) for which in range(5)], [1, 1, 2, 0, 2])
        self.assertIs(type(shelf.numbers(0)), list)

    def test_like_things_by_their_numbers(self):
        shelf = shelf_of(("up a", "like"), thing(1, 0), thing(2, 0), thing(1, 0), thing(1, 5))
        self.assertEqual(shelf.numbers(0), [0, 2, 3, 1])
        shelf.change(1, "a", (1, 1))
        self.assertEqual(shelf.numbers(0), [0, 1, 2, 3])
        shelf.change(0, "a", (7, 1))
        shelf.change(0, "b", (7, 1))
        self.assertEqual(shelf.numbers(0), [1, 2, 3, 0])
        shelf.change(0, "a", (1, 1))
        self.assertEqual((shelf.numbers(0), shelf.numbers(1)), ([0, 1, 2, 3], [0, 1, 2, 3]))

    def test_change_in_each_field(self):
        shelf = shelf_of(("up a", "up b"), thing(1, 1), thing(2, 2))
        shelf.change(0, "a", (5, 2))
        self.assertEqual((shelf.thing(0), shelf.numbers(0), shelf.numbers(1)), (thing("5/2", 1), [1, 0], [0, 1]))
        shelf.change(0, "b", (-3, 1))
        shelf.change(1, "b", (-4, 1))
        self.assertEqual((shelf.thing(0), shelf.numbers(0), shelf.numbers(1)), (thing("5/2", -3), [1, 0], [1, 0]))
        shelf.change(1, "b", (-4, 1))
        self.assertEqual((shelf.thing(1), shelf.numbers(0), shelf.numbers(1)), (thing(2, -4), [1, 0], [1, 0]))

    def test_between(self):
        shelf = shelf_of(("up a", "down a"), thing(4, 0), thing(1, 0), thing(2, 0), thing(1, 1), thing(4, 1))
        for which, one, other, told in ((0, 1, 2, [1, 3, 2]), (0, 0, 9, [1, 3, 2, 0, 4]), (0, 2, 3, [2]), (0, 3, 3, []),
                                        (0, 4, 4, [0, 4]), (0, 4, 1, []), (0, 2, 1, []), (1, 4, 2, [0, 4, 2]),
                                        (1, 2, 4, []), (1, 9, "3/2", [0, 4, 2]), (0, 5, 9, []), (0, -1, 0, [])):
            with self.subTest(which=which, one=one, other=other):
                self.assertEqual(shelf.between(which, thing(one, 7), thing(other, -7)), told)
        self.assertIs(type(shelf.between(0, thing(1, 0), thing(2, 0))), list)
        self.assertEqual(shelf_of(("up a",)).between(0, thing(0, 0), thing(9, 0)), [])

    def test_two_shelves_by_themselves(self):
        one, other = shelf_of(("up a",), thing(1, 0)), shelf_of(("up a",))
        self.assertEqual((one.numbers(0), other.numbers(0), other.put(thing(2, 0))), ([0], [], 0))


class RefusedTest(unittest.TestCase):
    def setUp(self):
        self.shelf = shelf_of(("up a", "down b"), thing(2, 0), thing(1, 0), thing(3, 1))
        self.shelf.take(1)

    def state(self):
        return [self.shelf.numbers(0), self.shelf.numbers(1), self.shelf.thing(0), self.shelf.thing(2)]

    def test_numbers_that_there_are_not(self):
        state = self.state()
        for number in (1, 3, 4, 60, -1, -2, -3, FAR, -FAR):
            for ask in (lambda: self.shelf.take(number), lambda: self.shelf.thing(number),
                        lambda: self.shelf.place(0, number), lambda: self.shelf.place(1, number),
                        lambda: self.shelf.change(number, "a", (1, 1)), lambda: self.shelf.change(number, "c", (1, 1)),
                        lambda: self.shelf.change(number, "", (1, 1))):
                self.assertRaises(NoThing, ask)
                self.assertRaises(OrderError, ask)
                self.assertEqual(self.state(), state)
        self.assertEqual(self.shelf.put(thing(0, 0)), 3)

    def test_fields_that_there_are_not(self):
        state = self.state()
        for field in ("c", "aa", "A", "", "up", "a b"):
            with self.assertRaises(NoField) as caught:
                self.shelf.change(2, field, (9, 1))
            self.assertEqual(caught.exception.word, field)
            self.assertEqual(self.state(), state)

    def test_of_no_things(self):
        for ask in (lambda shelf: shelf.take(0), lambda shelf: shelf.thing(0), lambda shelf: shelf.place(0, 0)):
            self.assertRaises(NoThing, ask, shelf_of(("up a",)))


class StaysTest(unittest.TestCase):
    def test_told_lists_are_the_askers_own(self):
        shelf = shelf_of(("up a", "up b"), thing(1, 2), thing(2, 1))
        for told in (shelf.numbers(0), shelf.between(0, thing(0, 0), thing(9, 9))):
            self.assertEqual(told, [0, 1])
            told.reverse()
            told.append(7)
        self.assertEqual((shelf.numbers(0), shelf.numbers(1), shelf.place(0, 1)), ([0, 1], [1, 0], 1))
        self.assertEqual(shelf.between(0, thing(0, 0), thing(9, 9)), [0, 1])

    def test_what_was_told_stays(self):
        shelf = shelf_of(("up a",), thing(1, 2), thing(2, 1))
        numbers, within, one = shelf.numbers(0), shelf.between(0, thing(0, 0), thing(9, 9)), shelf.thing(0)
        shelf.put(thing(0, 0))
        shelf.change(0, "a", (5, 1))
        shelf.take(1)
        self.assertEqual((numbers, within, one), ([0, 1], [0, 1], thing(1, 2)))

    def test_what_becomes_of_the_orders_handed_in(self):
        orders = [order_of("up a"), order_of("down a")]
        shelf = Shelf(orders, BOOK)
        orders.reverse()
        orders.append(order_of("like"))
        shelf.put(thing(1, 0))
        shelf.put(thing(2, 0))
        self.assertEqual((shelf.numbers(0), shelf.numbers(1)), ([0, 1], [1, 0]))
        self.assertEqual(len(orders), 3)
        self.assertEqual(Shelf(tuple(orders), BOOK).put(thing(0, 0)), 0)


class BehindEachDeedTest(unittest.TestCase):
    def deed(self, chance, shelf, things, given):
        what = chance.random()
        if what < 0.45 and len(things) < 60:
            one = some_row(chance, 1, 4)[0]
            self.assertEqual(shelf.put(one), given)
            things[given] = one
            return given + 1
        if things:
            number = chance.choice(sorted(things))
            if what < 0.65:
                shelf.take(number)
                del things[number]
            else:
                field, value = chance.choice((0, 1)), fraction_of(chance.randrange(4))
                shelf.change(number, BOOK[field], value)
                one = list(things[number])
                one[field] = value
                things[number] = tuple(one)
        return given

    def looked_at(self, chance, order, which, shelf, things):
        numbers = sorted(things)
        row = tuple(things[number] for number in numbers)
        line = [numbers[place] for place in turning(order, BOOK, row)]
        self.assertEqual(shelf.numbers(which), line)
        self.assertEqual(tuple(things[number] for number in line), in_order_by_the_book(order, BOOK, row))
        self.assertEqual([shelf.place(which, number) for number in line], list(range(len(line))))
        one, other = some_row(chance, 2, 4)
        within = [number for number in line if looked(order, BOOK, things[number], one) != "ahead"]
        within = [number for number in within if looked(order, BOOK, things[number], other) != "behind"]
        self.assertEqual(shelf.between(which, one, other), within)

    def test_each_list_is_put_in_order_afresh(self):
        chance = random.Random(110)
        for texts in (RIGHT_TEXTS[:1], RIGHT_TEXTS[:5], RIGHT_TEXTS[3:]):
            shelf, things, given = shelf_of(texts), {}, 0
            for turn in range(150):
                given = self.deed(chance, shelf, things, given)
                for which, text in enumerate(texts):
                    self.looked_at(chance, order_of(text), which, shelf, things)
                for number in things:
                    self.assertEqual(shelf.thing(number), things[number])


if __name__ == "__main__":
    unittest.main()
