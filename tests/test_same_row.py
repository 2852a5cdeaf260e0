"""Point [3]: a row put in order is the same in any way of doing it."""

import random
import unittest

from some_orders import RIGHT_TEXTS, order_of, some_right_order, some_row, thing

from ordertext.cases.judged import judged
from ordertext.cases.looker import order_shown_by
from ordertext.looks.least import least_looks
from ordertext.looks.nets import led, net_for
from ordertext.orders.looks import looked
from ordertext.orders.texts import order_shown
from ordertext.rows.books import Shelf
from ordertext.rows.kept import Kept
from ordertext.rows.moves import moved, moves
from ordertext.rows.pours import in_parts, poured
from ordertext.rows.ranks import at_place, first_places
from ordertext.rows.sorts import crossed, turned, turning
from ordertext.things.fractions import number_shown
from ordertext.whole import Desk

BOOK = ("a", "b")


class SameRowTest(unittest.TestCase):
    def same(self, order, row):
        turn = turning(order, BOOK, row)
        told = turned(row, turn)
        kept = Kept(order, BOOK)
        shelf = Shelf((order,), BOOK)
        for one in row:
            kept.put(one)
            shelf.put(one)
        self.assertEqual(kept.part(0, len(row)), told)
        self.assertEqual(tuple(shelf.numbers(0)), turn)
        self.assertEqual(poured(order, BOOK, tuple((one,) for one in row))[1], tuple((place, 0) for place in turn))
        for room in range(1, len(row) + 2):
            rounds = in_parts(order, BOOK, row, room)
            self.assertEqual(sum(rounds[-1], ()), told)
        self.assertEqual(tuple(at_place(order, BOOK, row, place) for place in range(len(row))), tuple(zip(told, turn)))
        self.assertEqual(first_places(order, BOOK, row, len(row)), turn)
        self.assertEqual(moved(row, moves(turn)), told)
        self.assertEqual(crossed(order, BOOK, told), 0)

    def by_a_net(self, order, row):
        told = turned(row, turning(order, BOOK, row))
        through = led(order, BOOK, net_for(len(row)), row)
        self.assertEqual(sorted(through), sorted(row))
        self.assertEqual([looked(order, BOOK, one, other) for one, other in zip(told, through)], ["like"] * len(row))

    def test_any_orders_and_rows(self):
        chance = random.Random(140)
        for turn in range(150):
            row = some_row(chance, chance.randrange(9), 4)
            order = some_right_order(chance, BOOK, row)
            with self.subTest(order=order_shown(order), row=row):
                self.same(order, row)
                self.by_a_net(order, row)

    def test_sixty_things(self):
        chance = random.Random(141)
        for text in RIGHT_TEXTS:
            self.same(order_of(text), some_row(chance, 60, 8))

    def test_by_the_tree_of_fewest_looks(self):
        chance = random.Random(142)
        for turn in range(40):
            many = chance.randrange(5)
            row = tuple(thing(number, chance.randrange(3)) for number in chance.sample(range(9), many))
            order = chance.choice((order_of("up a"), order_of("then down b up a"), order_of("then up b down a")))
            tree = least_looks((), many)[1]
            knot = tree[0]
            while knot[0] == "look":
                is_ahead = looked(order, BOOK, row[knot[1]], row[knot[2]]) == "ahead"
                knot = tree[knot[3] if is_ahead else knot[4]]
            self.assertEqual(knot[1], turning(order, BOOK, row))

    def test_at_the_desk(self):
        chance = random.Random(143)
        for turn in range(40):
            row = some_row(chance, chance.randrange(1, 9), 4)
            order = some_right_order(chance, BOOK, row)
            desk = Desk()
            desk.ask("fields a b")
            for one in row:
                desk.ask("put " + " ".join(number_shown(number) for number in one))
            told = judged(order, BOOK)
            if told[0] == "order":
                self.assertTrue(order_shown_by(order, BOOK, told[1]))
                desk.ask("order x " + order_shown(order))
                self.assertEqual(desk.ask("row x"), [str(place) for place in turning(order, BOOK, row)])


if __name__ == "__main__":
    unittest.main()
