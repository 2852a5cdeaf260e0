import random
import unittest

from some_orders import RIGHT_TEXTS, CountingBook, bits, in_order_by_the_book, order_of, some_right_order, some_row, thing

from ordertext.errors import NoRow, OrderError
from ordertext.orders.looks import looked
from ordertext.rows.pours import in_parts, poured
from ordertext.rows.sorts import turned, turning

BOOK = ("a", "b")
UP = order_of("up a")


def most_looks(rows):
    return sum(map(len, rows)) * bits(max(len(rows) - 1, 0))


class PouredTest(unittest.TestCase):
    def right(self, order, rows):
        told = poured(order, BOOK, rows)
        self.assertIs(type(told), tuple)
        row, spots, looks = told
        self.assertEqual([type(part) for part in told], [tuple, tuple, int])
        spread = [(number, place) for number, one in enumerate(rows) for place in range(len(one))]
        self.assertEqual(sorted(spots), spread)
        self.assertEqual(row, tuple(rows[number][place] for number, place in spots))
        for one, other in zip(spots, spots[1:]):
            look = looked(order, BOOK, rows[one[0]][one[1]], rows[other[0]][other[1]])
            self.assertTrue(look == "ahead" or (look == "like" and one < other), (rows, one, other))
        self.assertLessEqual(looks, most_looks(rows))
        return told

    def test_no_rows_and_rows_without_things(self):
        self.assertEqual(poured(UP, BOOK, ()), ((), (), 0))
        for many in (1, 2, 3, 5, 17):
            self.assertEqual(poured(UP, BOOK, ((),) * many), ((), (), 0))

    def test_one_row_takes_no_look(self):
        row = (thing(1, 0), thing(1, 5), thing(2, 0), thing(7, 1))
        self.assertEqual(poured(UP, BOOK, (row,)), (row, ((0, 0), (0, 1), (0, 2), (0, 3)), 0))
        self.assertEqual(poured(UP, BOOK, ((), row, ()))[:2], (row, ((1, 0), (1, 1), (1, 2), (1, 3))))

    def test_written_rows(self):
        one, two, three, four = thing(1, 0), thing(2, 0), thing(3, 0), thing(4, 0)
        row, spots, looks = poured(UP, BOOK, ((one, three), (two, four)))
        self.assertEqual(row, (one, two, three, four))
        self.assertEqual(spots, ((0, 0), (1, 0), (0, 1), (1, 1)))
        self.assertIn(looks, (3, 4))
        self.assertEqual(poured(UP, BOOK, ((two,), (four,), (one,), (three,)))[1], ((2, 0), (0, 0), (3, 0), (1, 0)))
        self.assertEqual(poured(order_of("down a"), BOOK, ((two, one), (three,)))[1], ((1, 0), (0, 0), (0, 1)))

    def test_like_things_stand_as_their_rows(self):
        rows = ((thing(1, 9), thing(1, 8)), (thing(1, 7),), (), (thing(1, 6), thing(1, 5)))
        for order in (UP, order_of("like"), order_of("turn up a")):
            self.assertEqual(poured(order, BOOK, rows)[1], ((0, 0), (0, 1), (1, 0), (3, 0), (3, 1)))
        rows = ((thing(1, 0), thing(2, 0)), (thing(1, 1), thing(2, 1)), (thing(0, 2), thing(1, 2), thing(1, 2)))
        self.assertEqual(poured(UP, BOOK, rows)[1], ((2, 0), (0, 0), (1, 0), (2, 1), (2, 2), (0, 1), (1, 1)))

    def test_things_that_must_be_looked_at(self):
        # Nothing parts things of two rows but a look, also where they are one and the same.
        self.assertEqual(poured(UP, BOOK, ((thing(1, 0),), (thing(2, 0),)))[2], 1)
        self.assertEqual(poured(UP, BOOK, ((thing(2, 0),), (thing(1, 0),)))[2], 1)
        self.assertEqual(poured(UP, BOOK, ((thing(1, 0),), (thing(1, 0),)))[2], 1)

    def test_many_rows_of_unlike_lengths(self):
        chance = random.Random(70)
        for many in list(range(1, 20)) + [31, 32, 33, 60]:
            for text in RIGHT_TEXTS:
                order = order_of(text)
                rows = []
                for number in range(many):
                    row = some_row(chance, chance.choice((0, 1, 1, 2, 3, 7)), 5)
                    rows.append(turned(row, turning(order, BOOK, row)))
                with self.subTest(text=text, rows=rows):
                    told = self.right(order, tuple(rows))
                    whole = sum(rows, ())
                    self.assertEqual(told[0], turned(whole, turning(order, BOOK, whole)))

    def test_the_bound_of_looks_where_rows_lie_in_one_another(self):
        for many in range(1, 18):
            rows = tuple(tuple(thing(many * place + number, 0) for place in range(60 // many)) for number in range(many))
            for given in (rows, rows[::-1]):
                looks = self.right(UP, given)[2]
                self.assertGreaterEqual(looks, sum(map(len, rows)) - 1 if many > 1 else 0)

    def test_each_look_is_counted(self):
        chance = random.Random(73)
        for many in (1, 2, 3, 6, 9):
            rows = tuple(turned(row, turning(UP, BOOK, row)) for row in [some_row(chance, 6, 9)] * many)
            book = CountingBook(BOOK)
            self.assertEqual(poured(UP, book, rows)[2] + 5 * many, book.asked)

    def test_a_row_that_is_not_in_order(self):
        x, y, z = thing(1, 0), thing(2, 0), thing(3, 0)
        for rows, things in ((((y, x),), (y, x)), (((x, y), (z, y, x)), (z, y)), (((x, z, y, x), (z, x)), (z, y)),
                             (((), (x,), (x, x, z, y), (z, x)), (z, y)), (((x, y), (x, z), (y, y, x, z, x)), (y, x))):
            with self.subTest(rows=rows), self.assertRaises(NoRow) as caught:
                poured(UP, BOOK, rows)
            self.assertIsInstance(caught.exception, OrderError)
            self.assertIs(type(caught.exception.things), tuple)
            self.assertEqual(caught.exception.things, things)

    def test_like_neighbours_are_in_order(self):
        row = (thing(1, 5), thing(1, 4), thing(1, 5))
        self.assertEqual(poured(UP, BOOK, (row, row))[0], row + row)

    def test_an_order_that_is_one_for_these_alone(self):
        order = order_of("pick either is b 0 up a up b")
        rows = ((thing(0, 2),), (thing(1, 0),))
        self.assertEqual(poured(order, BOOK, rows)[1], ((0, 0), (1, 0)))
        self.assertEqual(poured(order, BOOK, rows[::-1])[1], ((1, 0), (0, 0)))

    def test_the_same_asked_again(self):
        rows = ((thing(1, 0), thing(3, 0)), (thing(2, 0),), (thing(0, 0), thing(3, 1)))
        told = poured(UP, BOOK, rows)
        poured(UP, BOOK, rows[::-1])
        self.assertEqual(poured(UP, BOOK, rows), told)


class InPartsTest(unittest.TestCase):
    def by_the_words(self, order, row, room):
        parts = tuple(row[place:place + room] for place in range(0, len(row), room))
        parts = tuple(in_order_by_the_book(order, BOOK, part) for part in parts)
        rounds = [parts]
        while len(parts) > 1:
            pairs = [parts[place:place + 2] for place in range(0, len(parts), 2)]
            parts = tuple(in_order_by_the_book(order, BOOK, sum(pair, ())) for pair in pairs)
            rounds.append(parts)
        return tuple(rounds)

    def test_no_things(self):
        for room in (1, 2, 60):
            self.assertEqual(in_parts(UP, BOOK, (), room), ((),))

    def test_one_thing(self):
        row = (thing(1, 1),)
        for room in (1, 2, 60):
            self.assertEqual(in_parts(UP, BOOK, row, room), ((row,),))

    def test_written_rows(self):
        a, b, c, d, e = [thing(number, 0) for number in range(5)]
        row = (e, c, a, d, b)
        self.assertEqual(in_parts(UP, BOOK, row, 2),
                         (((c, e), (a, d), (b,)), ((a, c, d, e), (b,)), ((a, b, c, d, e),)))
        self.assertEqual(in_parts(UP, BOOK, row, 1),
                         (((e,), (c,), (a,), (d,), (b,)), ((c, e), (a, d), (b,)), ((a, c, d, e), (b,)),
                          ((a, b, c, d, e),)))
        self.assertEqual(in_parts(UP, BOOK, row, 3), (((a, c, e), (b, d)), ((a, b, c, d, e),)))
        for room in (5, 6, 1000):
            self.assertEqual(in_parts(UP, BOOK, row, room), (((a, b, c, d, e),),))

    def test_any_room(self):
        chance = random.Random(71)
        for many in (2, 3, 4, 7, 12, 60):
            for text in RIGHT_TEXTS:
                row = some_row(chance, many, 4)
                for room in sorted({1, 2, 3, many // 2, many - 1, many, many + 1}):
                    told = in_parts(order_of(text), BOOK, row, room)
                    with self.subTest(text=text, row=row, room=room):
                        self.assertIs(type(told), tuple)
                        self.assertEqual(told, self.by_the_words(order_of(text), row, room))
                        self.assertEqual(told[-1], (turned(row, turning(order_of(text), BOOK, row)),))

    def test_any_order(self):
        chance = random.Random(72)
        for turn in range(60):
            row = some_row(chance, chance.randrange(12), 4)
            order = some_right_order(chance, BOOK, row)
            room = chance.randrange(1, 14)
            self.assertEqual(in_parts(order, BOOK, row, room), self.by_the_words(order, row, room))


if __name__ == "__main__":
    unittest.main()
