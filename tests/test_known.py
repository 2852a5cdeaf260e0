import itertools
import unittest

from ordertext.errors import Clash, OrderError
from ordertext.looks.known import closed, tree_count

TWO = (("look", 0, 1, 1, 2), ("told", (0, 1)), ("told", (1, 0)))
THREE = (
    ("look", 0, 1, 1, 6),
    ("look", 1, 2, 2, 3), ("told", (0, 1, 2)),
    ("look", 0, 2, 4, 5), ("told", (0, 2, 1)), ("told", (2, 0, 1)),
    ("look", 0, 2, 7, 8), ("told", (1, 0, 2)),
    ("look", 1, 2, 9, 10), ("told", (1, 2, 0)), ("told", (2, 1, 0)),
)


def changed(tree, place, knot):
    return tree[:place] + (knot,) + tree[place + 1:]


def rows_left(known, many):
    return [row for row in itertools.permutations(range(many))
            if all(row.index(one) < row.index(other) for one, other in known)]


def by_putting_in(many):
    """A tree that puts one thing behind the other in among those before, from the last of them on."""
    knots = []

    def grow(row, thing, place):
        number = len(knots)
        knots.append(None)
        if thing == many:
            knots[number] = ("told", row)
        elif place == 0:
            knots.pop()
            return grow((thing,) + row, thing + 1, thing + 1)
        else:
            behind = grow(row[:place] + (thing,) + row[place:], thing + 1, thing + 1)
            knots[number] = ("look", row[place - 1], thing, behind, grow(row, thing, place - 1))
        return number

    grow((), 0, 0)
    return tuple(knots)


class ClosedTest(unittest.TestCase):
    def test_nothing_known(self):
        for many in range(9):
            self.assertEqual(closed((), many), ())

    def test_what_follows_rising(self):
        self.assertEqual(closed(((1, 2), (0, 1)), 3), ((0, 1), (0, 2), (1, 2)))
        self.assertEqual(closed(((2, 0), (0, 1)), 4), ((0, 1), (2, 0), (2, 1)))
        self.assertEqual(closed(((2, 3), (0, 1)), 4), ((0, 1), (2, 3)))
        self.assertEqual(closed(((3, 2), (2, 1), (1, 0)), 4), ((1, 0), (2, 0), (2, 1), (3, 0), (3, 1), (3, 2)))

    def test_told_twice(self):
        self.assertEqual(closed(((0, 1), (0, 1), (0, 1)), 2), ((0, 1),))
        self.assertEqual(closed(((1, 2), (0, 1), (0, 2), (1, 2)), 3), ((0, 1), (0, 2), (1, 2)))

    def test_eight_things(self):
        chain = tuple((thing, thing + 1) for thing in range(7))
        every = tuple(itertools.combinations(range(8), 2))
        for pairs in (chain, chain[::-1], every, every[::-1]):
            self.assertEqual(closed(pairs, 8), every)
        self.assertEqual(closed(((7, 0),), 8), ((7, 0),))

    def test_by_the_rows_that_are_left(self):
        pairs = tuple(itertools.permutations(range(4), 2))
        for three in itertools.combinations(pairs, 3):
            left = rows_left(three, 4)
            with self.subTest(pairs=three):
                if left == []:
                    self.assertRaises(Clash, closed, three, 4)
                else:
                    told = closed(three, 4)
                    self.assertIs(type(told), tuple)
                    self.assertEqual(told, tuple(pair for pair in sorted(pairs) if all(
                        row.index(pair[0]) < row.index(pair[1]) for row in left)))

    def test_closed_already(self):
        known = closed(((0, 1), (1, 2), (3, 2)), 5)
        self.assertEqual(closed(known, 5), known)

    def test_clash(self):
        for pairs, many in ((((0, 0),), 1), (((2, 2),), 8), (((0, 1), (1, 0)), 2), (((0, 1), (1, 2), (2, 0)), 3),
                            (tuple((thing, (thing + 1) % 8) for thing in range(8)), 8)):
            with self.subTest(pairs=pairs):
                self.assertRaises(Clash, closed, pairs, many)
                self.assertRaises(OrderError, closed, pairs[::-1], many)


class TreeCountTest(unittest.TestCase):
    def test_written_trees(self):
        self.assertEqual(tree_count((("told", ()),), (), 0), 0)
        self.assertEqual(tree_count((("told", (0,)),), (), 1), 0)
        self.assertEqual(tree_count(TWO, (), 2), 1)
        self.assertEqual(tree_count(THREE, (), 3), 3)

    def test_great_trees(self):
        for many in range(7):
            self.assertEqual(tree_count(by_putting_in(many), (), many), many * (many - 1) // 2)

    def test_no_knots(self):
        for many in range(3):
            self.assertIsNone(tree_count((), (), many))

    def test_a_told_knot_that_leaves_more_than_one_row(self):
        self.assertIsNone(tree_count((("told", (0, 1)),), (), 2))
        self.assertEqual(tree_count((("told", (0, 1)),), ((0, 1),), 2), 0)
        self.assertIsNone(tree_count(changed(THREE, 3, ("told", (0, 2, 1))), (), 3))

    def test_a_told_knot_of_another_row(self):
        for row in ((1, 0), (0,), (), (0, 0), (0, 1, 2), (0, 2), (-1, 0)):
            self.assertIsNone(tree_count(changed(TWO, 1, ("told", row)), (), 2))
        self.assertIsNone(tree_count((("told", (0,)),), (), 0))
        self.assertIsNone(tree_count((("told", ()),), (), 1))
        self.assertIsNone(tree_count(changed(THREE, 4, ("told", (0, 1, 2))), (), 3))

    def test_a_look_at_a_thing_and_itself(self):
        self.assertIsNone(tree_count((("look", 0, 0, 1, 1), ("told", (0,))), (), 1))
        self.assertIsNone(tree_count((("look", 1, 1, 1, 1),) + tuple(
            ("look", 0, 1, 2, 3) if knot[0] == "look" else knot for knot in TWO), (), 2))

    def test_a_look_at_parted_things_counts_and_leads_the_known_way(self):
        tree = (("look", 0, 1, 1, 9), ("look", 0, 1, 2, -5), ("told", (0, 1)))
        self.assertEqual(tree_count(tree, ((0, 1),), 2), 2)
        self.assertIsNone(tree_count(tree, (), 2))
        self.assertIsNone(tree_count(tree, ((1, 0),), 2))
        tree = (("look", 0, 1, 1, 3), ("look", 1, 0, 0, 2), ("told", (0, 1)), ("told", (1, 0)))
        self.assertEqual(tree_count(tree, (), 2), 2)

    def test_known_by_what_follows(self):
        # Behind 0 ahead of 1 and 1 ahead of 2 a look at 0 and 2 goes the one way alone.
        tree = changed(THREE, 2, ("look", 2, 0, 99, 11)) + (("told", (0, 1, 2)),)
        self.assertEqual(tree_count(tree, (), 3), 3)
        tree = changed(THREE, 2, ("look", 0, 2, 11, 0)) + (("look", 2, 0, 11, 12), ("told", (0, 1, 2)))
        self.assertEqual(tree_count(tree, (), 3), 4)
        self.assertEqual(tree_count(THREE, ((0, 1), (0, 2), (1, 2)), 3), 2)
        self.assertEqual(tree_count(THREE, ((0, 1),), 3), 3)
        self.assertEqual(tree_count(THREE, ((1, 0),), 3), 3)
        self.assertEqual(tree_count((("look", 1, 2, 1, 2), ("told", (0, 1, 2)), ("told", (0, 2, 1))),
                                    ((0, 1), (0, 2)), 3), 1)

    def test_knots_that_are_not_there_or_not_greater(self):
        for onward in (3, 4, 100, -1, -2, 0):
            self.assertIsNone(tree_count((("look", 0, 1, onward, 2),) + TWO[1:], (), 2))
            self.assertIsNone(tree_count((("look", 0, 1, 1, onward),) + TWO[1:], (), 2))
        self.assertIsNone(tree_count(changed(THREE, 6, ("look", 0, 2, 6, 8)), (), 3))
        self.assertIsNone(tree_count(changed(THREE, 6, ("look", 0, 2, 5, 8)), (), 3))

    def test_ways_that_what_is_known_does_not_let(self):
        for onward in (0, 7, -1):
            self.assertEqual(tree_count((("look", 0, 1, 1, onward),) + TWO[1:], ((0, 1),), 2), 1)
            self.assertEqual(tree_count((("look", 0, 1, onward, 2),) + TWO[1:], ((1, 0),), 2), 1)
        # Nor do knots that no way comes to.
        self.assertEqual(tree_count(TWO + (("look", 0, 0, -1, 0), ("told", (5,))), (), 2), 1)

    def test_the_greatest_count(self):
        tree = (("look", 0, 1, 2, 1), ("told", (1, 0)), ("look", 0, 1, 3, 3), ("look", 1, 0, 4, 4), ("told", (0, 1)))
        self.assertEqual(tree_count(tree, (), 2), 3)
        self.assertEqual(tree_count(tree, ((1, 0),), 2), 1)

    def test_ways_that_meet(self):
        # Both ways lead to one knot, from which the looks are asked again.
        tree = (("look", 0, 1, 1, 1), ("look", 0, 1, 2, 3), ("told", (0, 1)), ("told", (1, 0)))
        self.assertEqual(tree_count(tree, (), 2), 2)
        tree = (("look", 0, 1, 1, 1),) + tuple(
            knot if knot[0] == "told" else knot[:3] + (knot[3] + 1, knot[4] + 1) for knot in THREE)
        self.assertEqual(tree_count(tree, (), 3), 4)
        # A short way and a long one meet.
        tree = (("look", 0, 1, 1, 2), ("look", 0, 1, 2, 2), ("look", 0, 1, 3, 4), ("told", (0, 1)), ("told", (1, 0)))
        self.assertEqual(tree_count(tree, (), 2), 3)

    def test_a_look_at_a_thing_that_is_not_there(self):
        for one, other in ((0, 2), (2, 0), (-1, 0), (0, -1)):
            self.assertIsNone(tree_count((("look", one, other, 1, 2),) + TWO[1:], (), 2))

    def test_a_long_way(self):
        tree = tuple(("look", 0, 1, number + 1, number + 1) for number in range(3000))
        tree += (("look", 0, 1, 3001, 3002), ("told", (0, 1)), ("told", (1, 0)))
        self.assertEqual(tree_count(tree, (), 2), 3001)


if __name__ == "__main__":
    unittest.main()
