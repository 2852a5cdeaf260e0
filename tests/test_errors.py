import unittest

from ordertext import errors

OF_A_TEXT = ("NoNumber", "NoOrder", "Clash", "NoNet", "NoPlace", "NoThing", "NoAsk")
ALL = OF_A_TEXT + ("NoField", "NoRow")


class ErrorsTest(unittest.TestCase):
    def test_each_stands_under_order_error_and_value_error(self):
        self.assertTrue(issubclass(errors.OrderError, ValueError))
        for name in ALL:
            with self.subTest(name=name):
                self.assertTrue(issubclass(getattr(errors, name), errors.OrderError))

    def test_none_stands_under_another(self):
        for name in ALL:
            for other in ALL:
                if name != other:
                    with self.subTest(name=name, other=other):
                        self.assertFalse(issubclass(getattr(errors, name), getattr(errors, other)))

    def test_made_of_a_text(self):
        for name in OF_A_TEXT:
            with self.subTest(name=name):
                self.assertEqual(str(getattr(errors, name)("some words")), "some words")
        self.assertEqual(str(errors.OrderError("some words")), "some words")

    def test_no_field_keeps_its_word(self):
        self.assertEqual(errors.NoField("price").word, "price")

    def test_no_row_keeps_its_things(self):
        things = (((1, 2),), ((0, 1),))
        self.assertEqual(errors.NoRow(things).things, things)


if __name__ == "__main__":
    unittest.main()
