import itertools
import random
import unittest

from some_orders import some_order

from ordertext import errors
from ordertext.orders.texts import numbers_of, order_shown, read_order

BOOK = ("a", "size", "eightlet", "zz")
TWENTY = "98765432109876543210"

READ = [
    ("like", ("like",)),
    ("up a", ("up", "a")),
    ("down size", ("down", "size")),
    ("up eightlet", ("up", "eightlet")),
    ("then up a down zz", ("then", "up", "a", "down", "zz")),
    ("turn up a", ("turn", "up", "a")),
    ("turn turn like", ("turn", "turn", "like")),
    ("pick same a up size like", ("pick", "same", "a", "up", "size", "like")),
    ("pick both under a 1/2 up a down a", ("pick", "both", "under", "a", (1, 2), "up", "a", "down", "a")),
    ("pick either is a -3 up a down a", ("pick", "either", "is", "a", (-3, 1), "up", "a", "down", "a")),
    ("pick not same a like up a", ("pick", "not", "same", "a", "like", "up", "a")),
    ("pick and same a same zz like up a", ("pick", "and", "same", "a", "same", "zz", "like", "up", "a")),
    ("pick or not same a both is zz 0 like up a",
     ("pick", "or", "not", "same", "a", "both", "is", "zz", (0, 1), "like", "up", "a")),
    ("then pick same a like turn up a then like down a",
     ("then", "pick", "same", "a", "like", "turn", "up", "a", "then", "like", "down", "a")),
    (f"pick both is a -{TWENTY}/7 like like", ("pick", "both", "is", "a", (-int(TWENTY), 7), "like", "like")),
]

# Each is read as the fraction of the two, so it is shown otherwise than it was told.
READ_OTHERWISE = [
    ("2/4", (1, 2), "1/2"), ("6/3", (2, 1), "2"), ("5/1", (5, 1), "5"), ("0/7", (0, 1), "0"), ("-4/6", (-2, 3), "-2/3"),
]

NO_ORDER = [
    "", " ", "  ", "a", "1", "up", "down", "then", "turn", "pick", "same", "same a", "both under a 1", "under a 1",
    "is a 1", "not same a", "and same a same a", "or", " like", "like ", "like like", "up  a", " up a", "up a ",
    "up a a", "up a like", "then up a", "then  up a like", "then up a down", "then up a like like", "turn", "turn a",
    "turn same a", "pick same a like", "pick same a like like like", "pick like like like", "pick under a 1 like like",
    "pick both a like like", "pick both same a like like", "pick both under a like like",
    "pick either under 1 a like like",
    "pick not like like like", "pick not under a 1 like like", "pick and same a like like", "pick or same a like like",
    "pick both is a 1/0 like like", "pick both is a -0 like like", "pick both is a 01 like like",
    "pick both is a 1/-2 like like", "pick both is a a like like", "pick both is a  like like",
    "pick both is 1 1 like like", "up like", "up up", "up is", "up 1", "up A", "up aB", "up a1", "up a_b", "up a-b",
    "up ninelette", "up ninelettr", "Up a", "UP a", "LIKE", "like\n", "up a\n", "up\ta", "\tlike", "up a,", "likes",
    "lik", "up \u00e4", "pick same like like like", "pick both under or 1 like like",
]

NO_FIELD = [
    ("up b", "b"), ("down sizes", "sizes"), ("up eightlex", "eightlex"), ("then up a down b", "b"),
    ("then up c down b", "c"), ("then up b down c", "b"), ("turn up q", "q"), ("pick same q up a up r", "q"),
    ("pick both under q 1 up r up s", "q"), ("pick both is a 1 up r up s", "r"), ("pick same a up a up s", "s"),
    ("pick and same a either is t 2/4 up a up b", "t"), ("up z", "z"), ("up nine", "nine"),
]

# Both faults at once: the row is none, so the field is not asked about.
BOTH_FAULTS = [
    "up b ", " up b", "up  b", "up b like", "then up b", "then up b down", "then up b up like", "pick same q up a",
    "pick both under q 1/0 like like", "pick both under q x like like", "up b up b", "then up b down B",
    "pick same q same q like like",
]


def refusal(text, book=BOOK):
    try:
        read_order(text, book)
    except errors.OrderError as error:
        return error
    return None


class ReadTest(unittest.TestCase):
    def test_read_and_shown(self):
        for text, order in READ:
            with self.subTest(text=text):
                self.assertEqual(read_order(text, BOOK), order)
                self.assertIs(type(read_order(text, BOOK)), tuple)
                self.assertEqual(order_shown(order), text)

    def test_numbers_as_fractions_are_read(self):
        for told, number, shown in READ_OTHERWISE:
            text = f"pick both under a {told} like like"
            with self.subTest(text=text):
                order = read_order(text, BOOK)
                self.assertEqual(order, ("pick", "both", "under", "a", number, "like", "like"))
                self.assertEqual(order_shown(order), f"pick both under a {shown} like like")

    def test_any_order_comes_back(self):
        chance = random.Random(6)
        for turn in range(300):
            order = some_order(chance, BOOK, ((0, 1), (-1, 1), (1, 2), (-2, 3), (17, 1)))
            with self.subTest(order=order):
                self.assertEqual(read_order(order_shown(order), BOOK), order)

    def test_no_order(self):
        for text in NO_ORDER + BOTH_FAULTS:
            with self.subTest(text=text):
                self.assertIs(type(refusal(text)), errors.NoOrder)

    def test_cut_off_or_left_over(self):
        for text, order in READ:
            words = text.split(" ")
            for many in range(len(words)):
                with self.subTest(text=text, many=many):
                    self.assertIs(type(refusal(" ".join(words[:many]))), errors.NoOrder)
            for more in ("like", "a", "1", "up a", ""):
                with self.subTest(text=text, more=more):
                    self.assertIs(type(refusal(text + " " + more)), errors.NoOrder)

    def test_blanks_out_of_place(self):
        for text, order in READ:
            places = [place for place, sign in enumerate(text) if sign == " "]
            for place in [0, len(text)] + places:
                with self.subTest(text=text, place=place):
                    self.assertIs(type(refusal(text[:place] + " " + text[place:])), errors.NoOrder)

    def test_no_field(self):
        for text, word in NO_FIELD:
            with self.subTest(text=text):
                error = refusal(text)
                self.assertIs(type(error), errors.NoField)
                self.assertEqual(error.word, word)

    def test_the_book_says_which_fields_there_are(self):
        self.assertEqual(read_order("up b", ("b",)), ("up", "b"))
        self.assertEqual(refusal("then up b up a", ("b",)).word, "a")
        for text, order in READ:
            fields = [word for word in order if word in BOOK]
            if fields:
                with self.subTest(text=text):
                    self.assertEqual(refusal(text, ("none",)).word, fields[0])

    def test_two_words_in_every_way(self):
        words = ["like", "up", "then", "same", "under", "a", "b", "1", ""]
        for one, other in itertools.product(words, words):
            text = one + " " + other
            with self.subTest(text=text):
                if text == "up a":
                    self.assertEqual(read_order(text, BOOK), ("up", "a"))
                elif text == "up b":
                    self.assertIs(type(refusal(text)), errors.NoField)
                else:
                    self.assertIs(type(refusal(text)), errors.NoOrder)

    def test_texts_as_long_as_they_may_be(self):
        text = 798 * "turn " + "like"
        self.assertLessEqual(len(text), 4000)
        self.assertEqual(order_shown(read_order(text, BOOK)), text)
        text = "pick " + 990 * "not " + "same a like up a"
        self.assertEqual(order_shown(read_order(text, BOOK)), text)

    def test_asked_again(self):
        self.assertEqual(read_order("then up a up zz", BOOK), read_order("then up a up zz", BOOK))


class NumbersTest(unittest.TestCase):
    def told(self, *texts):
        text = "like"
        for number in texts:
            text = f"pick both is a {number} like {text}"
        return numbers_of(read_order(text, BOOK))

    def test_none(self):
        self.assertEqual(self.told(), ())
        self.assertIs(type(self.told()), tuple)

    def test_rising_each_once(self):
        self.assertEqual(self.told("3", "1/2", "-1", "0"), ((-1, 1), (0, 1), (1, 2), (3, 1)))
        self.assertEqual(self.told("1/2", "2/4", "1/2"), ((1, 2),))
        self.assertEqual(self.told("1/3", "1/2", "1/3", "2/3"), ((1, 3), (1, 2), (2, 3)))
        self.assertEqual(self.told("-1/3", "-1/2"), ((-1, 2), (-1, 3)))

    def test_in_whatever_order_they_stand(self):
        rising = ("-5", "-1/2", "0", "1/3", "7")
        for texts in itertools.permutations(rising):
            self.assertEqual(self.told(*texts), ((-5, 1), (-1, 2), (0, 1), (1, 3), (7, 1)))

    def test_near_together(self):
        above = int(TWENTY)
        self.assertEqual(self.told(f"{above}/{above - 1}", "1", f"{above - 1}/{above}", f"{above - 2}/{above - 1}"),
                         ((above - 2, above - 1), (above - 1, above), (1, 1), (above, above - 1)))


if __name__ == "__main__":
    unittest.main()
