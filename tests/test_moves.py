import itertools
import random
import unittest

from some_orders import order_of, some_row

from ordertext.rows.moves import moved, moves, moves_shown, paper_of
from ordertext.rows.sorts import back, turned, turning

BOOK = ("a", "b")
FAR = 10 ** 5000


def one_move(row, start, end):
    rest = row[:start] + row[start + 1:]
    return rest[:end] + (row[start],) + rest[end:]


def fewest_to_all(many):
    """The fewest moves to each turning, found by trying all moves one behind the other."""
    found = {tuple(range(many)): 0}
    edge = list(found)
    while edge:
        reached = []
        for row in edge:
            for start, end in itertools.product(range(many), repeat=2):
                told = one_move(row, start, end)
                if told not in found:
                    found[told] = found[row] + 1
                    reached.append(told)
        edge = reached
    return found


def longest_rising(turn):
    best = []
    for place, number in enumerate(turn):
        best.append(1 + max([best[other] for other in range(place) if turn[other] < number], default=0))
    return max(best, default=0)


def some_turn(chance, many):
    turn = list(range(many))
    if chance.random() < 0.5:
        chance.shuffle(turn)
    for step in range(chance.randrange(many + 1)):
        turn.insert(chance.randrange(many), turn.pop(chance.randrange(many)))
    return tuple(turn)


class MovesTest(unittest.TestCase):
    def right(self, turn):
        pairs = moves(turn)
        self.assertIs(type(pairs), tuple)
        row = tuple(range(len(turn)))
        for pair in pairs:
            self.assertIs(type(pair), tuple)
            start, end = pair
            self.assertTrue(0 <= start < len(turn) and 0 <= end < len(turn))
            row = one_move(row, start, end)
        self.assertEqual(row, turn)
        self.assertEqual(moved(tuple(range(len(turn))), pairs), turn)
        return pairs

    def test_no_place_and_one(self):
        self.assertEqual((moves(()), moves((0,))), ((), ()))

    def test_written(self):
        self.assertEqual(moves((0, 1, 2)), ())
        self.assertIn(moves((1, 0)), (((0, 1),), ((1, 0),)))
        self.assertEqual(moves((3, 0, 1, 2)), ((3, 0),))
        self.assertEqual(moves((1, 2, 3, 0)), ((0, 3),))
        self.assertEqual(moves((0, 2, 3, 1, 4)), ((1, 3),))

    def test_fewest_by_trying_all(self):
        for many in range(7):
            for turn, fewest in fewest_to_all(many).items():
                self.assertEqual(len(self.right(turn)), fewest)

    def test_sixty_places(self):
        chance = random.Random(100)
        rising = tuple(range(60))
        turns = [rising, rising[::-1], rising[30:] + rising[:30], rising[1:] + (0,)]
        turns += [some_turn(chance, many) for many in (9, 30, 59, 60, 60, 61)]
        for turn in turns:
            self.assertEqual(len(self.right(turn)), len(turn) - longest_rising(turn))
        self.assertEqual(len(moves(rising[::-1])), 59)

    def test_the_same_asked_again(self):
        turn = some_turn(random.Random(101), 12)
        self.assertEqual(moves(turn), moves(turn))

    def test_from_order_to_order(self):
        chance = random.Random(102)
        for text in ("up b", "down a", "then up b down a"):
            row = some_row(chance, 20, 6)
            row = turned(row, turning(order_of("up a"), BOOK, row))
            turn = turning(order_of(text), BOOK, row)
            self.assertEqual(moved(row, moves(turn)), turned(row, turn))
            self.assertEqual(moved(turned(row, turn), moves(back(turn))), row)


class MovedTest(unittest.TestCase):
    def test_written(self):
        self.assertEqual(moved(("x", "y", "z"), ((0, 2),)), ("y", "z", "x"))
        self.assertEqual(moved(("x", "y", "z"), ((2, 0),)), ("z", "x", "y"))
        self.assertEqual(moved(("x", "y", "z"), ((0, 1),)), ("y", "x", "z"))
        self.assertEqual(moved(("x", "y", "z"), ((1, 1),)), ("x", "y", "z"))
        self.assertEqual(moved(("x", "y", "z"), ()), ("x", "y", "z"))
        self.assertEqual(moved(("x", "y", "z"), ((0, 2), (0, 1))), ("z", "y", "x"))
        self.assertEqual((moved((), ()), moved(("x",), ((0, 0),))), ((), ("x",)))

    def test_of_anything(self):
        row = (None, [1], "x", (1, 2), {"y": 1}, True, 1, "x")
        told = moved(row, ((0, 7), (2, 0), (4, 5)))
        self.assertIs(type(told), tuple)
        self.assertEqual(repr(told), repr(((1, 2), [1], "x", {"y": 1}, 1, True, "x", None)))
        self.assertIs(told[1], row[1])
        self.assertEqual(row[1], [1])

    def test_any_moves(self):
        chance = random.Random(103)
        for turn in range(100):
            row = some_turn(chance, 9)
            pairs = tuple((chance.randrange(9), chance.randrange(9)) for pair in range(chance.randrange(5)))
            told = row
            for start, end in pairs:
                thing = told[start]
                told = one_move(told, start, end)
                self.assertEqual(told[end], thing)
            self.assertEqual(moved(row, pairs), told)


class PaperTest(unittest.TestCase):
    def by_the_words(self, turn, paper):
        """The words of [26]."""
        kept, rows = paper
        places = range(len(turn))
        if any(place not in places for place in itertools.chain(kept, *rows)):
            return False
        if list(kept) != sorted(set(kept)) or any(list(row) != sorted(set(row)) for row in rows):
            return False
        numbers = [turn[place] for place in kept]
        if any(one >= other for one, other in itertools.combinations(numbers, 2)):
            return False
        for row in rows:
            if any(turn[one] <= turn[other] for one, other in itertools.combinations(row, 2)):
                return False
        return sorted(itertools.chain(*rows)) == list(places) and len(rows) == len(kept)

    def right(self, turn):
        paper = paper_of(turn)
        self.assertEqual([type(part) for part in (paper,) + paper + paper[1]], [tuple] * (3 + len(paper[1])))
        self.assertTrue(self.by_the_words(turn, paper))
        self.assertIs(moves_shown(turn, paper), True)
        self.assertEqual(len(paper[0]), longest_rising(turn))
        self.assertEqual(len(moves(turn)), len(turn) - len(paper[0]))
        return paper

    def test_no_place_and_one(self):
        self.assertEqual((paper_of(()), paper_of((0,))), (((), ()), ((0,), ((0,),))))
        self.assertIs(moves_shown((), ((), ())), True)
        for paper in (((), ((),)), ((0,), ()), ((0,), ((),)), ((0,), ((0,),)), ((), ((), ()))):
            self.assertIs(moves_shown((), paper), False)
        for paper in (((), ()), ((0,), ()), ((), ((0,),)), ((0,), ((),)), ((1,), ((0,),)), ((0,), ((1,),)),
                      ((-1,), ((0,),)), ((0,), ((-1,),)), ((0, 0), ((0,), (0,))), ((0,), ((0, 0),)), ((0, 0), ((0,), ()))):
            self.assertIs(moves_shown((0,), paper), False)

    def test_all_turnings_of_few_places(self):
        for many in range(7):
            for turn in itertools.permutations(range(many)):
                self.right(turn)

    def test_sixty_places(self):
        chance = random.Random(104)
        rising = tuple(range(60))
        self.assertEqual(self.right(rising), (rising, tuple((place,) for place in rising)))
        self.assertEqual(len(self.right(rising[::-1])[0]), 1)
        for turn in range(10):
            self.right(some_turn(chance, 60))

    def test_written(self):
        turn = (2, 0, 3, 1)
        for kept in ((0, 2), (1, 2), (1, 3)):
            for rows in (((0, 1), (2, 3)), ((2, 3), (0, 1))):
                self.assertIs(moves_shown(turn, (kept, rows)), True)
            for rows in (((0, 3), (1,), (2,)), ((0, 1), (3, 2)), ((0, 1, 3), (2,)), ((0, 1), (2,)), ((0, 1, 2, 3),)):
                self.assertIs(moves_shown(turn, (kept, rows)), False)
        for kept in ((0, 1), (2, 0), (0, 3), (2, 3), (0, 0), (0,), (), (0, 1, 2), (0, 4), (-4, 2), (-2, -1)):
            self.assertIs(moves_shown(turn, (kept, ((0, 1), (2, 3)))), False)

    def spoilt(self, chance, paper):
        kept, rows = paper[0], [list(row) for row in paper[1]]
        row = chance.choice(rows)
        other = chance.choice(rows)
        place = chance.randrange(len(row))
        odd = chance.choice((-1, -FAR, FAR, sum(map(len, rows)), chance.randrange(9)))
        what = chance.randrange(9)
        if what == 0:
            row.pop(place)
        elif what == 1:
            row.insert(place, row[place])
        elif what == 2:
            other.append(row.pop(place))
        elif what == 3:
            other.insert(0, row.pop(place))
        elif what == 4:
            rows.append(row[place:])
            row[place:] = []
        elif what == 5:
            row.reverse()
        elif what == 6 and other is not row:
            other.extend(row)
            rows.remove(row)
        elif what == 7:
            row[place] = odd
        else:
            kept = list(kept)
            which = chance.randrange(len(kept))
            how = chance.randrange(4)
            if how == 0:
                kept[which] = odd
            elif how == 1:
                kept.pop(which)
            elif how == 2:
                kept.insert(which, odd)
            else:
                kept.reverse()
        return (tuple(kept), tuple(tuple(row) for row in rows))

    def test_papers_spoilt_by_one(self):
        chance = random.Random(105)
        seen = {True: 0, False: 0}
        for turn in range(3000):
            row = some_turn(chance, chance.choice((1, 2, 3, 5, 9, 60)))
            paper = self.spoilt(chance, paper_of(row))
            told = self.by_the_words(row, paper)
            self.assertIs(moves_shown(row, paper), told)
            seen[told] += 1
        self.assertGreater(min(seen.values()), 100)

    def test_a_paper_of_another_turning(self):
        chance = random.Random(106)
        for turn in range(200):
            one, other = some_turn(chance, 5), some_turn(chance, 5)
            self.assertIs(moves_shown(one, paper_of(other)), self.by_the_words(one, paper_of(other)))

    def test_all_papers_of_two_places(self):
        numbers = (-1, 0, 1, 2)
        rows = [()] + [(one,) for one in numbers] + list(itertools.product(numbers, repeat=2))
        for kept in rows:
            for many in range(3):
                for parts in itertools.product(rows, repeat=many):
                    for turn in ((0, 1), (1, 0)):
                        self.assertIs(moves_shown(turn, (kept, parts)), self.by_the_words(turn, (kept, parts)))


if __name__ == "__main__":
    unittest.main()
