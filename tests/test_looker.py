import random
import unittest

from some_orders import some_order
from some_papers import at, num, plain_alike_shown, plain_order_shown, some_paper, spoilt

from ordertext.cases.alike import alike
from ordertext.cases.judged import judged
from ordertext.cases.looker import alike_shown_by, order_shown_by
from ordertext.orders.texts import read_order

BOOK = ("a", "b")
END = ("end",)
TWENTY = 98765432109876543210
# For "up a": the first two, then the third with each of them, the like way by one end.
UP_PAPER = (
    ("split", at(0), at(1), 1, 2, 3),
    ("split", at(1), at(2), 6, 6, 4),
    ("split", at(1), at(2), 6, 6, 6),
    ("split", at(1), at(2), 5, 6, 6),
    ("split", at(0), at(2), 6, 6, 6),
    ("split", at(0), at(2), 6, 6, 6),
    END,
)


def shown(text, paper, book=BOOK):
    return order_shown_by(read_order(text, book), book, paper)


def changed(paper, place, knot):
    return paper[:place] + (knot,) + paper[place + 1:]


def behind(splits, paper):
    """The paper behind splits that all lead to the next knot."""
    many = len(splits)
    knots = [("split", one, other, place + 1, place + 1, place + 1) for place, (one, other) in enumerate(splits)]
    moved = [knot[:3] + tuple(onward + many for onward in knot[3:]) for knot in paper]
    return tuple(knots + moved)


class OrderShownByTest(unittest.TestCase):
    def test_a_written_paper(self):
        self.assertIs(shown("up a", UP_PAPER), True)
        self.assertIs(shown("down a", UP_PAPER), True)
        self.assertIs(shown("turn then up a like", UP_PAPER), True)
        self.assertIs(shown("pick same a like down a", UP_PAPER), True)
        self.assertIs(shown("like", UP_PAPER), True)

    def test_not_all_is_told(self):
        self.assertIs(shown("up b", UP_PAPER), False)
        self.assertIs(shown("then up a up b", UP_PAPER), False)
        self.assertIs(shown("pick both under a 0 up a up a", UP_PAPER), False)

    def test_all_is_told_but_it_is_no_order(self):
        text = "pick both is a 0 like like"
        splits = [(at(number), num(0)) for number in range(3)]
        self.assertIs(shown(text, behind(splits, (END,))), True)
        splits += [(at(0), at(1)), (at(0), at(2)), (at(1), at(2))]
        self.assertIs(shown("pick either is a 0 down a up a", behind(splits, (END,))), False)
        self.assertIs(shown("pick either is a 0 up a up a", behind(splits, (END,))), True)
        self.assertIs(shown("pick either is a 0 like up a", behind(splits, (END,))), False)

    def test_no_knots(self):
        for text in ("like", "up a"):
            self.assertIs(shown(text, ()), False)

    def test_an_end_alone(self):
        self.assertIs(shown("like", (END,)), True)
        self.assertIs(shown("then like turn like", (END,)), True)
        self.assertIs(shown("up a", (END,)), False)
        self.assertIs(shown("pick same a like like", (END,)), False)
        self.assertIs(shown("pick or same a not same a like like", (END,)), False)

    def test_cut_off(self):
        for many in range(len(UP_PAPER)):
            self.assertIs(shown("up a", UP_PAPER[:many]), False)

    def test_an_end_in_the_place_of_a_split(self):
        for place in range(6):
            self.assertIs(shown("up a", changed(UP_PAPER, place, END)), False)
        # The whole paper is one for "like", as it needs no split.
        for place in range(6):
            self.assertIs(shown("like", changed(UP_PAPER, place, END)), True)

    def test_a_split_in_the_place_of_an_end(self):
        for onward, told in ((7, True), (6, False), (8, False)):
            paper = changed(UP_PAPER, 6, ("split", at(0, 1), num(3), 7, 7, onward)) + (END,)
            self.assertIs(shown("up a", paper), told)
        self.assertIs(shown("up a", changed(UP_PAPER, 6, ("split", at(0), at(1), 7, 7, 7))), False)

    def test_numbers_exchanged(self):
        self.assertIs(shown("up a", changed(UP_PAPER, 0, ("split", at(0), at(1), 2, 1, 3))), False)
        self.assertIs(shown("up a", changed(UP_PAPER, 0, ("split", at(0), at(1), 1, 3, 2))), False)
        # Behind a like first two one look at the third tells both.
        self.assertIs(shown("up a", changed(UP_PAPER, 0, ("split", at(0), at(1), 3, 2, 1))), False)
        self.assertIs(shown("up a", changed(UP_PAPER, 2, ("split", at(0), at(2), 6, 6, 6))), True)

    def test_numbers_not_greater_or_of_no_knot(self):
        for place, knot in enumerate(UP_PAPER[:6]):
            for way in (3, 4, 5):
                for onward in (place, place - 1, -1, -7, 0, 7, 8, 10 ** 30):
                    spoiled = knot[:way] + (onward,) + knot[way + 1:]
                    with self.subTest(place=place, way=way, onward=onward):
                        self.assertIs(shown("up a", changed(UP_PAPER, place, spoiled)), False)
                        self.assertIs(shown("like", changed(UP_PAPER, place, spoiled)), False)

    def test_points_exchanged(self):
        self.assertIs(shown("up a", changed(UP_PAPER, 2, ("split", at(2), at(1), 6, 6, 6))), True)
        self.assertIs(shown("up a", changed(UP_PAPER, 0, ("split", at(1), at(0), 1, 2, 3))), False)
        self.assertIs(shown("up a", changed(UP_PAPER, 0, ("split", at(1), at(0), 3, 2, 1))), True)

    def test_points_of_other_fields_and_of_none(self):
        for points in ((at(0), at(1, 1)), (at(0, 1), at(1, 2)), (at(0, 2), at(1, 2)), (at(0, -1), at(1, -1)),
                       (at(0, 2), num(1)), (num(1), at(0, -1)), (at(3), at(1)), (at(0), at(-1)), (num(1), num(2)),
                       (num(1), num(1))):
            for text in ("up a", "like"):
                with self.subTest(points=points, text=text):
                    self.assertIs(shown(text, changed(UP_PAPER, 5, ("split",) + points + (6, 6, 6))), False)
                    # No way comes to this one.
                    self.assertIs(shown(text, UP_PAPER + (("split",) + points + (8, 8, 8), END)), False)
        self.assertIs(shown("up a", changed(UP_PAPER, 5, ("split", at(0, 1), at(2, 1), 6, 6, 6))), False)
        paper = UP_PAPER + (("split", at(0, 1), at(1, 1), 8, 8, 8), END)
        self.assertIs(shown("up a", paper), True)
        self.assertIs(shown("up a", paper, ("a",)), False)

    def test_a_fraction_that_is_none(self):
        for number in ((2, 4), (0, 2), (1, 0), (1, -2)):
            self.assertIs(shown("like", (("split", at(0), ("number", number), 1, 1, 1), END)), False)

    def test_knots_that_no_way_comes_to(self):
        self.assertIs(shown("up a", UP_PAPER + (END, END)), True)
        self.assertIs(shown("up a", UP_PAPER + (("split", at(0), num(1), 8, 8, 9), END, END)), True)
        self.assertIs(shown("up a", UP_PAPER + (("split", at(0), num(1), 8, 8, 10), END, END)), False)
        self.assertIs(shown("up a", UP_PAPER + (("split", at(0), num(1), 8, 7, 8), END, END)), False)

    def test_ways_whose_facts_do_not_fit(self):
        # An end at which nothing is told, but facts that fit never come to it.
        paper = (("split", at(0), at(0), 8, 1, 8),)
        paper += tuple(knot[:3] + tuple(onward + 1 for onward in knot[3:]) for knot in UP_PAPER) + (END,)
        self.assertIs(shown("up a", paper), True)
        self.assertIs(shown("up a", changed(paper, 0, ("split", at(0), at(0), 1, 8, 1))), False)
        self.assertIs(shown("up a", changed(paper, 0, ("split", at(0), at(1), 1, 1, 8))), False)

    def test_ways_that_do_not_fit_by_the_order_of_numbers(self):
        text = "pick either under a 1 like like"
        unders = [(at(number), num(1)) for number in range(3)]
        good = behind(unders, (END,))
        self.assertIs(shown(text, good), True)
        # Where the first is under 0 it cannot be 1 or more, so knot 5 is gone to by facts that fit alone.
        paper = (
            ("split", at(0), num(0), 1, 2, 2),
            ("split", at(0), num(1), 3, 5, 5),
            ("split", at(0), num(1), 3, 3, 3),
            ("split", at(1), num(1), 4, 4, 4),
            ("split", at(2), num(1), 6, 6, 6),
            END,
            END,
        )
        self.assertIs(shown(text, paper), True)
        self.assertIs(shown(text, changed(paper, 0, ("split", at(0), num(2), 1, 2, 2))), False)

    def test_a_way_whose_facts_do_not_fit_is_gone_no_further(self):
        rest = [knot[:3] + tuple(onward + 3 for onward in knot[3:]) for knot in UP_PAPER]
        paper = (("split", at(0), num(1), 1, 3, 3), ("split", at(0), num(2), 3, 2, 2), END) + tuple(rest)
        self.assertIs(shown("up a", paper), True)
        self.assertIs(shown("up a", changed(paper, 1, ("split", at(0), num(0), 3, 2, 2))), False)

    def test_looks_that_numbers_tell(self):
        # Two on both sides of a number, or both at it, are told; two on one side are not.
        splits = [(at(number), num(1)) for number in range(3)]
        marks = behind(splits, (END,))
        self.assertIs(shown("pick or both under a 1 not either under a 1 like up a", marks), True)
        self.assertIs(shown("up a", marks), False)
        self.assertIs(shown("pick both is a 1 up a like", marks), True)
        self.assertIs(shown("pick and either is a 1 not both is a 1 up a like", marks), False)
        # A number that stands in no split takes its place among the others.
        self.assertIs(shown("pick both under a 1 like like", behind([(at(k), num(1)) for k in range(3)], (END,))), True)
        self.assertIs(shown("pick both under a 2 like like", marks), False)

    def test_one_part_that_settles_it(self):
        settled = (("split", at(0), num(1), 1, 1, 3), ("split", at(1), num(1), 2, 2, 2),
                   ("split", at(2), num(1), 5, 5, 5), ("split", at(1), num(1), 4, 4, 4),
                   ("split", at(2), num(1), 5, 5, 5), END)
        self.assertIs(shown("pick both under a 1 like like", settled), True)
        # Where the first is 1 its part settles a both of it with each; the other two are still asked.
        paper = (("split", at(0), num(1), 1, 3, 3), ("split", at(1), num(1), 2, 2, 2),
                 ("split", at(2), num(1), 5, 5, 5), ("split", at(1), num(1), 4, 5, 5),
                 ("split", at(2), num(1), 5, 5, 5), END)
        self.assertIs(shown("pick both under a 1 like like", paper), True)
        self.assertIs(shown("pick either under a 1 like like", paper), False)

    def test_splits_that_are_not_needed(self):
        for splits in ([(at(0), at(0))] * 5, [(at(0, 1), at(1, 1)), (num(3), at(2, 1))], [(at(2), at(1))] * 3,
                       [(at(0), num(value)) for value in range(6)], [(at(0), at(1)), (at(1), at(2)), (at(0), at(2))]):
            with self.subTest(splits=splits):
                self.assertIs(shown("up a", behind(splits, UP_PAPER)), True)
                self.assertIs(shown("up b", behind(splits, UP_PAPER)), False)

    def test_a_way_of_two_hundred_splits(self):
        several = [(num(198 - value), at(value % 3, value % 2)) for value in range(60)]
        for splits in ([(at(0), at(1))] * 198, [(at(0), num(value)) for value in range(198)],
                       several + [(at(1), at(1))] * 138):
            paper = behind(splits, UP_PAPER)
            self.assertIs(shown("up a", paper), True)
            self.assertIs(shown("up a", changed(paper, len(paper) - 2, END)), False)

    def test_numbers_that_gather_along_a_way(self):
        # Each split parts off what is below its number; the last ones are behind all of them.
        many = 190
        knots = [("split", at(0), num(value), many, many, value + 1) for value in range(many)]
        rest = tuple(knot[:3] + tuple(onward + many for onward in knot[3:]) for knot in UP_PAPER)
        paper = tuple(knots) + rest
        self.assertIs(shown("up a", paper), True)
        self.assertIs(shown("pick either under a 5 like like", paper), False)

    def test_thousands_of_knots(self):
        splits = [(at(0), num(1)), (at(1), num(1)), (at(2), num(1)), (at(0), num(2)), (at(0), at(1)), (at(0), at(2)),
                  (at(1), at(2))]
        knots = []

        def grow(deep):
            place = len(knots)
            knots.append(END)
            if deep < len(splits):
                knots[place] = ("split",) + splits[deep] + tuple(grow(deep + 1) for way in range(3))
            return place

        grow(0)
        paper = tuple(knots)
        self.assertEqual(len(paper), 3280)
        for text in ("up a", "pick either under a 1 like up a", "pick or same a both is a 1 like down a"):
            with self.subTest(text=text):
                self.assertIs(shown(text, paper), plain_order_shown(read_order(text, BOOK), BOOK, paper))
        self.assertIs(shown("up a", paper), True)
        self.assertIs(shown("pick both under a 2 up a up a", paper), False)

    def test_great_papers_that_are_told(self):
        text = "then like then pick or and not same a either is c 0 both under a 1 up b turn down b up c"
        book = ("a", "b", "c")
        paper = judged(read_order(text, book), book)[1]
        self.assertGreater(len(paper), 1000)
        self.assertIs(shown(text, paper, book), True)
        self.assertIs(shown(text, paper[:-1], book), False)
        self.assertIs(shown(text, changed(paper, len(paper) // 2, END), book), False)

    def test_great_numbers_near_together(self):
        near = (f"{TWENTY}/{TWENTY + 1}", f"{TWENTY + 1}/{TWENTY + 2}")
        splits = [(at(number), num(near[0])) for number in range(3)]
        self.assertIs(shown(f"pick both under a {near[0]} like like", behind(splits, (END,))), True)
        self.assertIs(shown(f"pick both under a {near[1]} like like", behind(splits, (END,))), False)

    def test_papers_spoilt_by_one_knot(self):
        chance = random.Random(30)
        numbers = [(0, 1), (1, 2)]
        seen = {True: 0, False: 0}
        for turn in range(120):
            book = BOOK[:chance.choice([1, 2])]
            order = some_order(chance, book, numbers, deep=chance.choice([1, 2, 3]))
            kind, paper = judged(order, book)
            if kind != "order" or len(order) < 3 or len(paper) > 50:
                continue
            self.assertIs(plain_order_shown(order, book, paper), True)
            for spoil in range(8):
                how, other = spoilt(chance, paper, book, numbers + [(3, 1)])
                told = plain_order_shown(order, book, other)
                with self.subTest(how=how, order=order, paper=other):
                    self.assertIs(order_shown_by(order, book, other), told)
                seen[told] += 1
        self.assertGreater(min(seen.values()), 50)

    def test_papers_by_chance(self):
        chance = random.Random(31)
        texts = ("up a", "pick both under a 1/2 like like", "pick same a like like", "pick either is a 0 like like")
        seen = {True: 0, False: 0}
        for turn in range(300):
            book = BOOK[:chance.choice([1, 2])]
            order = read_order(chance.choice(texts), book)
            paper = some_paper(chance, len(book), [(0, 1), (1, 2)], chance.randrange(1, 8), judged(order, book)[1])
            told = plain_order_shown(order, book, paper)
            with self.subTest(order=order, paper=paper):
                self.assertIs(order_shown_by(order, book, paper), told)
            seen[told] += 1
        self.assertGreater(min(seen.values()), 50)

    def test_asked_again(self):
        for turn in range(2):
            self.assertIs(shown("up a", UP_PAPER), True)
            self.assertIs(shown("up b", UP_PAPER), False)


class WaysThatMeetTest(unittest.TestCase):
    """Ways that come to one knot are gone by the facts of each, whichever of them is gone first."""

    def try_out(self, text, knots):
        """The knots lead to a good paper, and by the ways called less and more there or to an end."""
        order = read_order(text, BOOK)
        good = judged(order, BOOK)[1]
        many = len(knots)
        rest = [knot[:3] + tuple(onward + many for onward in knot[3:]) for knot in good] + [END]
        bad = many + len(good)
        for less, more in ((many, many), (bad, many), (many, bad)):
            named = {"good": many, "less": less, "more": more}
            paper = [knot[:3] + tuple(named.get(onward, onward) for onward in knot[3:]) for knot in knots]
            with self.subTest(less=less, more=more):
                self.assertIs(order_shown_by(order, BOOK, tuple(paper + rest)), less == more)

    def test_a_point_that_splits_alone_ask_of(self):
        self.try_out("up a", (("split", at(0, 1), num(1), 1, 1, 1), ("split", at(0, 1), num(1), "less", "good", "more")))

    def test_a_number_that_splits_ask_of_again(self):
        self.try_out("up a", (
            ("split", at(0), num(1), 1, "good", 1),
            ("split", at(1), num(3), 2, 2, 2),
            ("split", at(0), num(1), "less", "good", "more"),
        ))

    def test_a_number_between_those_asked_of_again(self):
        self.try_out("up a", (
            ("split", at(0), num(2), 1, "good", 1),
            ("split", at(0), num(1), 2, "good", 2),
            ("split", at(0), num(3), "less", "good", "more"),
        ))

    def test_two_points_told_by_a_number_that_is_not_asked_of_again(self):
        self.try_out("pick same a like like", (
            ("split", at(0), num(5), 1, "good", 2),
            ("split", at(1), num(5), "good", "good", 3),
            ("split", at(1), num(5), 3, "good", "good"),
            ("split", at(0), at(1), "less", "good", "more"),
        ))

    def test_a_point_that_a_look_alone_asks_of(self):
        # Where the first is 0 the second's place by 0 tells their look, else not always.
        for onward, told in ((1, False), (2, True)):
            paper = (("split", at(0), num(0), 2, 1, onward), ("split", at(1), num(0), 3, 3, 3),
                     ("split", at(0), at(1), 3, 3, 3), END)
            self.assertIs(alike_shown_by(("up", "a"), ("up", "a"), BOOK, paper), told)


class AlikeShownByTest(unittest.TestCase):
    def shown(self, one, other, paper, book=BOOK):
        return alike_shown_by(read_order(one, book), read_order(other, book), book, paper)

    def test_of_two_things_alone(self):
        paper = (("split", at(0), at(1), 1, 1, 1), END)
        self.assertIs(self.shown("up a", "turn down a", paper), True)
        self.assertIs(self.shown("up a", "pick same a like up a", paper), True)
        self.assertIs(self.shown("up a", "down a", paper), False)
        self.assertIs(self.shown("up a", "like", paper), False)
        self.assertIs(self.shown("up b", "up b", paper), False)
        # It need be no order for all.
        self.assertIs(self.shown("pick same a like like", "pick not same a like like", paper), True)

    def test_a_third_thing_plays_no_part(self):
        paper = (("split", at(2), at(1), 1, 1, 1), ("split", at(0), at(1), 2, 2, 2), END)
        self.assertIs(self.shown("up a", "turn down a", paper), True)
        self.assertIs(self.shown("up a", "turn down a", (("split", at(0), at(2), 1, 1, 1), END)), False)

    def test_both_are_to_be_told(self):
        paper = (("split", at(0), at(1), 1, 1, 1), END)
        self.assertIs(self.shown("up a", "pick both under a 1 up a up a", paper), False)
        self.assertIs(self.shown("pick both under a 1 up a up a", "up a", paper), False)
        paper = behind([(at(0), num(1)), (at(1), num(1))], paper)
        self.assertIs(self.shown("pick both under a 1 up a up a", "up a", paper), True)

    def test_no_knots_an_end_and_spoilt_knots(self):
        self.assertIs(self.shown("like", "like", ()), False)
        self.assertIs(self.shown("like", "turn like", (END,)), True)
        self.assertIs(self.shown("up a", "up a", (END,)), False)
        for knot in (("split", at(0), at(1), 0, 1, 1), ("split", at(0), at(1), 1, 2, 1),
                     ("split", at(0), at(1), 1, 1, -1), ("split", at(0), at(1, 1), 1, 1, 1),
                     ("split", at(0, 2), at(1, 2), 1, 1, 1), ("split", num(0), num(1), 1, 1, 1), END):
            self.assertIs(self.shown("up a", "up a", (knot, END)), False)

    def test_ways_whose_facts_do_not_fit(self):
        paper = (("split", at(0), at(0), 2, 1, 2), ("split", at(0), at(1), 2, 2, 2), END)
        self.assertIs(self.shown("up a", "up a", paper), True)
        self.assertIs(self.shown("up a", "up a", changed(paper, 0, ("split", at(0), at(0), 1, 2, 1))), False)

    def test_papers_spoilt_by_one_knot(self):
        chance = random.Random(32)
        numbers = [(0, 1), (1, 2)]
        seen = {True: 0, False: 0}
        for turn in range(150):
            book = BOOK[:chance.choice([1, 2])]
            one = some_order(chance, book, numbers, deep=3)
            other = ("turn", "pick", "same", "a") + one + ("turn",) + one
            kind, paper = alike(("turn", "turn") + one, other, book)
            if kind != "alike" or len(one) < 4 or len(paper) > 50:
                continue
            for spoil in range(8):
                how, spoiled = spoilt(chance, paper, book, numbers + [(3, 1)])
                told = plain_alike_shown(one, other, book, spoiled)
                with self.subTest(how=how, one=one, paper=spoiled):
                    self.assertIs(alike_shown_by(one, other, book, spoiled), told)
                seen[told] += 1
        self.assertGreater(min(seen.values()), 20)


if __name__ == "__main__":
    unittest.main()
