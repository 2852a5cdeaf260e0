import random
import unittest

from some_orders import grid, is_one, some_order, thing
from some_papers import plain_order_shown

from ordertext.cases.judged import judged
from ordertext.cases.looker import order_shown_by
from ordertext.orders.looks import is_order
from ordertext.orders.texts import read_order

BOOK = ("a", "b", "c")
TWENTY = 98765432109876543210

ONES = (
    "like", "up a", "down c", "then up a down b", "then then up a down b up c", "turn then up a turn down b",
    "pick same a up b up a", "pick same a like up a", "pick not same a down a up c",
    "pick both under a 1/2 up b pick either under a 1/2 up a down b",
    "pick both is a 1/2 up b pick either is a 1/2 pick both under a 1/2 up a up a up a",
    "pick not either under a 0 up b pick both under a 0 down c up a",
    "pick and same a same b up c then up a up b", "pick or same a not same a up b down b",
    "pick or both under b 0 not either under b 0 pick same b up a up b down b",
    "then pick both is a 0 like like up b", "turn turn turn turn down a",
    f"pick both under a {TWENTY}/7 up b pick either under a {TWENTY}/7 up a up c",
)
NONE = (
    "pick either is b 0 up a up b", "pick either is a 0 like up b", "pick both is a 0 like up b",
    "pick and either is a 0 either is a 2 like up a", "pick same a up b like", "pick not same a up b down b",
    "pick both under a 1 up b down b", "pick or same a same b like up c", "pick either under a 1 up b up a",
    "then pick same a up b like up c", "turn pick either is b -7/3 up a up b",
    "pick and same a not same b down c up c",
    f"pick either is b {TWENTY} up a up b",
)


class JudgedTest(unittest.TestCase):
    def shown(self, order, book):
        told = judged(order, book)
        self.assertIs(type(told), tuple)
        self.assertEqual(told[0], "order", order)
        self.assertIs(order_shown_by(order, book, told[1]), True)
        return told[1]

    def fails(self, order, book):
        told = judged(order, book)
        self.assertEqual(told[0], "fails", order)
        self.assertIs(type(told[1]), tuple)
        self.assertIn(len(told[1]), (2, 3))
        for one in told[1]:
            self.assertIs(type(one), tuple)
            self.assertEqual(len(one), len(book))
        self.assertFalse(is_one(order, book, told[1]))
        self.assertFalse(is_order(order, book, told[1]))

    def test_ones_for_all(self):
        for text in ONES:
            with self.subTest(text=text):
                order = read_order(text, BOOK)
                paper = self.shown(order, BOOK)
                self.assertIs(plain_order_shown(order, BOOK, paper), True)

    def test_ones_for_none(self):
        for text in NONE:
            with self.subTest(text=text):
                self.fails(read_order(text, BOOK), BOOK)

    def test_a_paper_is_of_knots_that_lead_on(self):
        for text in ONES:
            paper = judged(read_order(text, BOOK), BOOK)[1]
            self.assertIs(type(paper), tuple)
            for number, knot in enumerate(paper):
                if knot != ("end",):
                    self.assertEqual((knot[0], len(knot)), ("split", 6))
                    self.assertTrue(all(number < onward < len(paper) for onward in knot[3:]))

    def test_nothing_to_split(self):
        self.assertEqual(judged(("like",), ("a",)), ("order", (("end",),)))
        self.assertEqual(judged(("turn", "then", "like", "like"), ("a", "b")), ("order", (("end",),)))

    def test_a_case_is_split_where_both_orders_are_the_same(self):
        for case in ("same a", "both is a 0", "either under a 0"):
            paper = self.shown(read_order(f"pick {case} like like", BOOK), BOOK)
            self.assertEqual(paper[0][0], "split")

    def test_the_same_asked_again(self):
        for text in ONES[:8] + NONE[:4]:
            order = read_order(text, BOOK)
            self.assertEqual(judged(order, BOOK), judged(order, BOOK))

    def test_by_trying_things_of_one_field(self):
        self.by_trying(random.Random(20), ("a",), [(0, 1), (1, 2)], 150, 6)

    def test_by_trying_things_of_two_fields(self):
        self.by_trying(random.Random(21), ("a", "b"), [(0, 1)], 60, 6)

    def by_trying(self, chance, book, numbers, turns, least):
        things = grid(numbers, len(book), 3)
        seen = {"order": 0, "fails": 0}
        for turn in range(turns):
            order = ("pick",)
            for kind in ("case", "order", "order"):
                order += some_order(chance, book, numbers, kind, 2)
            told = judged(order, book)[0]
            with self.subTest(order=order):
                self.assertEqual(told == "order", is_order(order, book, things))
                self.shown(order, book) if told == "order" else self.fails(order, book)
            seen[told] += 1
        self.assertGreater(min(seen.values()), least)

    def test_as_great_as_orders_may_be(self):
        for text in (
            "pick or both under a 0 or same c or both is b 1 either is c 2 then like up a up a",
            "pick and or same c and not same a not either is c 2 either is a 0 turn up b down b",
            "then pick or both is a 0 and or same c either is c 2 either under b 1 turn like like up b",
            "then like then pick or and not same a either is c 0 both under a 1 up b turn down b up c",
            "pick and and not and same a same b not same c or either is c 0 either is b 1 like like",
        ):
            with self.subTest(text=text):
                order = read_order(text, BOOK)
                self.assertGreater(len(order), 19)
                self.assertGreater(len(self.shown(order, BOOK)), 100)

    def test_as_great_as_orders_may_be_and_none(self):
        text = "pick and or same c and not same a not either is c 2 either is a 0 turn up b up b"
        self.fails(read_order(text, BOOK), BOOK)
        text = "then pick or both is a 0 and or same c either is c 2 either under b 1 turn like down a up b"
        self.fails(read_order(text, BOOK), BOOK)

    def test_deep_words(self):
        self.shown(("turn",) * 22 + ("up", "a"), BOOK)
        self.shown(("pick",) + ("not",) * 17 + ("same", "a", "up", "a", "up", "b"), BOOK)
        self.fails(("pick",) + ("not",) * 16 + ("same", "a", "up", "b", "down", "b"), BOOK)

    def test_things_of_all_fields_of_the_book(self):
        told = judged(read_order("pick either is b 0 up b up b", BOOK), BOOK)
        self.assertEqual(told[0], "order")
        order = read_order("pick either is b 0 down b up b", BOOK)
        for many in (2, 3):
            self.fails(order, BOOK[:many])
        self.fails(read_order("pick either is d 0 down d up d", ("d",)), ("d",))

    def test_the_words_one_by_one(self):
        under, same = "under a 1", "is a 1"
        both_under = f"pick both {under} up b pick either {under} up a down b"
        for text, one_for_all in (
            (both_under, True), (both_under.replace(under, same), False),
            ("pick both is a 1 up b pick either is a 1 like like", False),
            ("pick or both is a 1 not either is a 1 up b down b", False),
            ("then pick or both is a 1 not either is a 1 like up a up b", False),
            ("then pick or both under a 1 not either under a 1 like up a up b", True),
            ("then pick or both under a 1 not either under a 1 like down a up b", True),
            ("then pick and not both under a 1 either under a 1 up a like up b", True),
            ("then pick and not both is a 1 either is a 1 up a like up b", False),
        ):
            with self.subTest(text=text):
                order = read_order(text, ("a", "b"))
                self.shown(order, ("a", "b")) if one_for_all else self.fails(order, ("a", "b"))

    def test_a_fraction_near_another(self):
        near = (f"{TWENTY}/{TWENTY + 1}", f"{TWENTY + 1}/{TWENTY + 2}")
        text = f"pick and either under a {near[0]} not both under a {near[1]} up a pick same a like like"
        self.fails(read_order(text, ("a",)), ("a",))
        told = judged(read_order(text, ("a",)), ("a",))[1]
        self.assertTrue(any(one[0] != thing(0)[0] for one in told))


if __name__ == "__main__":
    unittest.main()
