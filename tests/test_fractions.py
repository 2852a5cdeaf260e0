import math
import unittest
from fractions import Fraction

from ordertext import errors
from ordertext.things.fractions import compared, fraction, middle, number_shown, read_number

TWENTY = 98765432109876543210
NEAR_TWENTY = 98765432109876543211

SOME = [
    (0, 1), (1, 1), (-1, 1), (1, 2), (-1, 2), (2, 3), (-7, 3), (10, 1),
    (TWENTY, 1), (-TWENTY, 1), (TWENTY, NEAR_TWENTY), (NEAR_TWENTY, TWENTY), (-1, TWENTY), (1, NEAR_TWENTY),
]


def pair(value):
    return (value.numerator, value.denominator)


class FractionTest(unittest.TestCase):
    def test_of_two_whole_numbers(self):
        cases = [
            ((1, 2), (1, 2)), ((2, 4), (1, 2)), ((6, 3), (2, 1)), ((5, 1), (5, 1)),
            ((0, 1), (0, 1)), ((0, 7), (0, 1)), ((0, -7), (0, 1)),
            ((-2, 4), (-1, 2)), ((2, -4), (-1, 2)), ((-2, -4), (1, 2)), ((7, -1), (-7, 1)),
            ((TWENTY, NEAR_TWENTY), (TWENTY, NEAR_TWENTY)), ((TWENTY, 10), (TWENTY // 10, 1)),
            ((-TWENTY, -TWENTY), (1, 1)),
        ]
        for asked, told in cases:
            with self.subTest(asked=asked):
                self.assertEqual(fraction(*asked), told)

    def test_as_pythons_own(self):
        for above in range(-12, 13):
            for below in list(range(-12, 0)) + list(range(1, 13)):
                told = fraction(above, below)
                self.assertEqual(told, pair(Fraction(above, below)))
                self.assertIs(type(told), tuple)
                self.assertEqual([type(part) for part in told], [int, int])

    def test_compared(self):
        for one in SOME:
            for other in SOME:
                left, right = Fraction(*one), Fraction(*other)
                with self.subTest(one=one, other=other):
                    self.assertEqual(compared(one, other), (left > right) - (left < right))
                    self.assertIs(type(compared(one, other)), int)

    def test_middle(self):
        self.assertEqual(middle((0, 1), (1, 1)), (1, 2))
        self.assertEqual(middle((-1, 2), (1, 2)), (0, 1))
        for one in SOME:
            for other in SOME:
                with self.subTest(one=one, other=other):
                    self.assertEqual(middle(one, other), pair((Fraction(*one) + Fraction(*other)) / 2))


class ShownTest(unittest.TestCase):
    def test_shown(self):
        cases = [
            ((0, 1), "0"), ((5, 1), "5"), ((-5, 1), "-5"), ((1, 2), "1/2"), ((-1, 2), "-1/2"), ((100, 7), "100/7"),
            ((TWENTY, NEAR_TWENTY), "98765432109876543210/98765432109876543211"),
            ((10 ** 18, 1), "1" + 18 * "0"), ((-10 ** 18 - 5, 1), "-1" + 17 * "0" + "5"), ((10 ** 18 - 1, 1), 18 * "9"),
            ((1, 10 ** 36), "1/1" + 36 * "0"),
        ]
        for number, text in cases:
            with self.subTest(text=text):
                self.assertEqual(number_shown(number), text)
                self.assertEqual(read_number(text), number)

    def test_what_is_told_may_be_as_great_as_it_needs(self):
        number = (0, 1)
        below = 10 ** 19 + 1
        while len(bin(number[1])) < 17000:
            number = middle(number, (1, below))
            below += 2
        text = number_shown(number)
        self.assertGreater(len(text), 5000)
        self.assertEqual(read_number(text), number)


class ReadTest(unittest.TestCase):
    def test_read(self):
        cases = [
            ("0", (0, 1)), ("7", (7, 1)), ("-7", (-7, 1)), ("10", (10, 1)), ("1/2", (1, 2)), ("-1/2", (-1, 2)),
            ("2/4", (1, 2)), ("-6/4", (-3, 2)), ("6/3", (2, 1)), ("5/1", (5, 1)), ("-5/1", (-5, 1)),
            ("0/7", (0, 1)), ("0/1", (0, 1)), ("100/10", (10, 1)),
            (str(TWENTY), (TWENTY, 1)), (f"-{TWENTY}/{NEAR_TWENTY}", (-TWENTY, NEAR_TWENTY)),
            (f"{TWENTY}/{TWENTY}", (1, 1)),
        ]
        for text, told in cases:
            with self.subTest(text=text):
                self.assertEqual(read_number(text), told)
                self.assertIs(type(read_number(text)), tuple)

    def test_every_small_one(self):
        for above in range(-30, 31):
            for below in range(1, 31):
                told = read_number(f"{above}/{below}")
                self.assertEqual(told, fraction(above, below))
                self.assertEqual(math.gcd(*told), 1)
                self.assertEqual(read_number(number_shown(told)), told)

    def test_long_texts(self):
        for length in (17, 18, 19, 35, 36, 37, 1000, 3999, 4000):
            text = ("123456789" * 500)[:length]
            self.assertEqual(number_shown(read_number(text)), text)
            self.assertEqual(read_number(text)[0] % 10 ** 15, int(text[-15:]))

    def test_refused(self):
        texts = [
            "", " ", "-", "/", "-/", "1/", "/2", "-/2", "1/0", "0/0", "-1/0", "-0", "-0/7", "00", "01", "-01", "1/02",
            "01/2", "1/00", "00/1", "1/-2", "-1/-2", "--1", "+1", "1/+2", "1/2/3", "1//2", "1 ", " 1", "1 /2", "1/ 2",
            "1\n", "\t1", "1/2\n", "1.5", "1_0", "1e5", "0x1", "a", "1a", "a/1", "1/a", "one", "like", "2-", "1-2", "~",
            "\u0661", "\u00b2", "1/\u0662", "\uff11",
        ]
        for text in texts:
            with self.subTest(text=text):
                with self.assertRaises(errors.OrderError) as caught:
                    read_number(text)
                self.assertIs(type(caught.exception), errors.NoNumber)


if __name__ == "__main__":
    unittest.main()
