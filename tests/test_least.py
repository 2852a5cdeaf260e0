import itertools
import unittest

from test_known import rows_left

from ordertext.errors import Clash
from ordertext.looks.known import closed, tree_count
from ordertext.looks.least import bound_shown, least_looks

FULL = ((0, 1),)
BACK = ((1, 0),)
PAPER = (((), 1), (FULL, 0))


def all_known(many):
    """All that can be known of so many things."""
    seen = [()]
    for known in seen:
        for pair in itertools.permutations(range(many), 2):
            try:
                further = closed(known + (pair,), many)
            except Clash:
                continue
            if further not in seen:
                seen.append(further)
    return seen


def plain_bound_shown(paper, many):
    """The words of point [16], one by one."""
    for known, number in paper:
        try:
            if number < 0 or closed(known, many) != known:
                return False
        except Clash:
            return False
    for known, number in paper:
        if number == 0:
            continue
        if len(rows_left(known, many)) < 2:
            return False
        for pair in itertools.combinations(range(many), 2):
            if pair in known or pair[::-1] in known:
                continue
            answers = [set(closed(known + (answer,), many)) for answer in (pair, pair[::-1])]
            if not any(answer <= set(other) and bound >= number - 1 for answer in answers for other, bound in paper):
                return False
    return True


class LeastLooksTest(unittest.TestCase):
    def told(self, known, many):
        told = least_looks(known, many)
        self.assertIs(type(told), tuple)
        number, tree, paper = told
        self.assertIs(type(tree), tuple)
        self.assertIs(type(paper), tuple)
        self.assertEqual(tree_count(tree, known, many), number)
        self.assertIs(bound_shown(paper, many), True)
        self.assertIn((known, number), paper)
        return number

    def test_nothing_known(self):
        self.assertEqual([self.told((), many) for many in range(5)], [0, 0, 1, 3, 5])

    def test_the_tree_of_a_row_that_is_known(self):
        for many in range(5):
            for row in itertools.permutations(range(many)):
                known = closed(tuple(zip(row, row[1:])), many)
                self.assertEqual(least_looks(known, many)[:2], (0, (("told", row),)))
                self.told(known, many)

    def test_written(self):
        for pairs, many, number in ((((0, 1),), 3, 2), (((0, 1), (0, 2)), 3, 1), (((0, 1), (2, 3)), 4, 3),
                                    (((0, 1),), 4, 4), (((0, 1), (1, 2)), 4, 2), (((3, 0), (3, 1), (3, 2)), 4, 3)):
            self.assertEqual(self.told(closed(pairs, many), many), number)

    def test_all_that_can_be_known(self):
        for many, sorts in ((2, 3), (3, 19), (4, 219)):
            every = all_known(many)
            self.assertEqual(len(every), sorts)
            least = {}
            for known in sorted(every, key=len, reverse=True):
                open_pairs = [pair for pair in itertools.combinations(range(many), 2)
                              if pair not in known and pair[::-1] not in known]
                counts = [1 + max(least[closed(known + (pair,), many)], least[closed(known + (pair[::-1],), many)])
                          for pair in open_pairs]
                least[known] = min(counts, default=0)
                with self.subTest(known=known):
                    self.assertEqual(self.told(known, many), least[known])

    def test_papers_are_let_by_word_for_word(self):
        for many in range(4):
            self.assertIs(plain_bound_shown(least_looks((), many)[2], many), True)
        self.assertIs(plain_bound_shown(least_looks(((0, 1), (2, 3)), 4)[2], 4), True)

    def test_the_same_asked_again(self):
        for many in range(5):
            self.assertEqual(least_looks((), many), least_looks((), many))


class BoundShownTest(unittest.TestCase):
    def test_written(self):
        self.assertIs(bound_shown(PAPER, 2), True)
        self.assertIs(bound_shown((((), 1), (BACK, 0)), 2), True)
        self.assertIs(bound_shown(PAPER[::-1], 2), True)
        self.assertIs(bound_shown((), 2), True)
        self.assertIs(bound_shown((((), 0),), 2), True)
        self.assertIs(bound_shown((((), 0),), 0), True)
        self.assertIs(bound_shown((((), 1),), 1), False)

    def test_numbers_that_are_spoilt(self):
        self.assertIs(bound_shown((((), 2), (FULL, 0)), 2), False)
        self.assertIs(bound_shown((((), 1), (FULL, 1)), 2), False)
        self.assertIs(bound_shown((((), 1), (FULL, -1)), 2), False)
        self.assertIs(bound_shown((((), -1),), 2), False)
        self.assertIs(bound_shown(PAPER + (((), -1),), 2), False)
        self.assertIs(bound_shown((((), 0), (FULL, 0)), 2), True)

    def test_an_answer_leads_to_what_is_known_in_the_paper(self):
        self.assertIs(bound_shown((((), 1),), 2), False)
        self.assertIs(bound_shown((((), 1), ((), 0)), 2), False)
        # The pair that holds it may know more.
        full = ((0, 1), (0, 2), (1, 2))
        self.assertIs(bound_shown((((), 1), (full, 0)), 3), True)
        self.assertIs(bound_shown((((), 2), (((0, 1), (0, 2)), 1), (full, 0)), 3), False)
        self.assertIs(bound_shown(((((0, 1),), 1), (full, 0)), 3), True)
        self.assertIs(bound_shown(((((0, 1),), 2), (full, 1)), 3), False)

    def test_known_as_it_is_told(self):
        for known in (((0, 1), (1, 2)), ((0, 2), (0, 1)), ((0, 1), (0, 1)), ((0, 0),), ((0, 1), (1, 0)), ((0, 3),),
                      ((-1, 0),), ((0, 1), (1, 2), (2, 0)), ((1, 2), (0, 1), (0, 2))):
            with self.subTest(known=known):
                self.assertIs(bound_shown(((known, 0),), 3), False)
                self.assertIs(bound_shown((((), 0), (known, 0)), 3), False)
        self.assertIs(bound_shown(((((0, 1), (0, 2), (1, 2)), 0),), 3), True)

    def test_papers_spoilt_by_one_number(self):
        for many in (2, 3):
            paper = least_looks((), many)[2]
            for place, (known, number) in enumerate(paper):
                for other in (number - 1, number + 1, -1, 0, 7):
                    spoilt = paper[:place] + ((known, other),) + paper[place + 1:]
                    with self.subTest(known=known, number=number, other=other):
                        self.assertIs(bound_shown(spoilt, many), plain_bound_shown(spoilt, many))
                        if other > number or other < 0:
                            self.assertIs(bound_shown(spoilt, many), False)

    def test_papers_spoilt_by_one_pair(self):
        paper = least_looks((), 3)[2]
        seen = {True: 0, False: 0}
        for place, (known, number) in enumerate(paper):
            spoilt = [paper[:place] + paper[place + 1:]]
            for left in range(len(known)):
                spoilt.append(paper[:place] + ((known[:left] + known[left + 1:], number),) + paper[place + 1:])
                spoilt.append(paper[:place] + ((known[:left] + (known[left][::-1],) + known[left + 1:], number),)
                              + paper[place + 1:])
            for other in spoilt:
                with self.subTest(place=place, paper=other):
                    told = plain_bound_shown(other, 3)
                    self.assertIs(bound_shown(other, 3), told)
                    seen[told] += 1
        self.assertGreater(min(seen.values()), 5)

    def test_the_bound_of_four_spoilt(self):
        number, tree, paper = least_looks((), 4)
        self.assertEqual(number, 5)
        self.assertIs(bound_shown(paper, 4), True)
        self.assertIs(bound_shown(tuple((known, 6 if known == () else bound) for known, bound in paper), 4), False)
        self.assertIs(bound_shown(tuple((known, min(bound, 4)) for known, bound in paper), 4), True)
        self.assertIs(bound_shown(tuple((known, bound + 1) for known, bound in paper), 4), False)

    def test_eight_things(self):
        chain = tuple(itertools.combinations(range(8), 2))
        open_one = tuple(pair for pair in chain if pair != (6, 7))
        self.assertIs(bound_shown(((open_one, 1), (chain, 0)), 8), True)
        self.assertIs(bound_shown(((open_one, 2), (chain, 1)), 8), False)
        self.assertIs(bound_shown(((chain, 1),), 8), False)


if __name__ == "__main__":
    unittest.main()
