"""The fewest looks that tell the order of few things, and papers that no fewer do."""

from ordertext.errors import Clash
from ordertext.looks.known import bits_of, closed, pairs_of, unparted, with_look


def least_looks(known, many):
    search = Search()
    begin = bits_of(known, many)
    number = search.least(begin)
    tree = []
    search.grow(tree, begin)
    paper = [(pairs_of(other), search.found[other]) for other in search.found]
    return (number, tuple(tree), tuple(paper))


class Search:
    def __init__(self):
        # For all that may get known, the least worst count, and the look that leads to it.
        self.found = {}
        self.best = {}

    def least(self, known):
        if known not in self.found:
            self.found[known] = self.tried(known)
        return self.found[known]

    def tried(self, known):
        least = 0
        for one, other in unparted(known):
            count = 1 + max(self.least(with_look(known, one, other)), self.least(with_look(known, other, one)))
            if known not in self.best or count < least:
                least = count
                self.best[known] = (one, other)
        return least

    # Puts a tree behind what the list holds, and tells the number of its first knot.
    def grow(self, tree, known):
        number = len(tree)
        if known not in self.best:
            tree.append(("told", row_of(known)))
            return number
        look = self.best[known]
        tree.append(look)
        ahead = self.grow(tree, with_look(known, look[0], look[1]))
        behind = self.grow(tree, with_look(known, look[1], look[0]))
        tree[number] = ("look", look[0], look[1], ahead, behind)
        return number


def row_of(known):
    return tuple(sorted(range(len(known)), key=lambda thing: many_ahead(known, thing)))


def many_ahead(known, thing):
    return sum([behind >> thing & 1 for behind in known])


def bound_shown(paper, many):
    if not all([is_known(known, many) and number >= 0 for known, number in paper]):
        return False
    bounds = {}
    for known, number in paper:
        bits = bits_of(known, many)
        bounds[bits] = max(number, bounds.get(bits, 0))
    return all([is_bound(known, bounds) for known in bounds])


def is_known(pairs, many):
    if not all([0 <= one < many and 0 <= other < many for one, other in pairs]):
        return False
    try:
        return closed(pairs, many) == pairs
    except Clash:
        return False


def is_bound(known, bounds):
    number = bounds[known]
    if number == 0:
        return True
    looks = unparted(known)
    if looks == []:
        return False
    return all([leaves_bound(known, one, other, number - 1, bounds) for one, other in looks])


def leaves_bound(known, one, other, number, bounds):
    answers = [with_look(known, one, other), with_look(known, other, one)]
    if any([bounds.get(answer, -1) >= number for answer in answers]):
        return True
    return any([has_bound(answer, number, bounds) for answer in answers])


def has_bound(known, number, bounds):
    # Who knows more needs no more looks, so a bound for it is one for what lies within it.
    return any([bounds[more] >= number and lies_within(known, more) for more in bounds])


def lies_within(known, more):
    return all([behind | wider == wider for behind, wider in zip(known, more)])
