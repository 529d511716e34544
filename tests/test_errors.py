import unittest

from changehall import errors
from changehall.errors import HallError

NAMES = ["NoHall", "NoBasket", "NoPlace", "NoText", "Unlike", "TooMany", "NotWithin"]


class ErrorsTest(unittest.TestCase):
    def test_hall_error_is_a_value_error(self):
        self.assertTrue(issubclass(HallError, ValueError))

    def test_each_refusal_is_a_hall_error(self):
        for name in NAMES:
            with self.subTest(name=name):
                self.assertTrue(issubclass(getattr(errors, name), HallError))

    def test_no_refusal_is_another_one(self):
        for name in NAMES:
            for other in NAMES:
                if name != other:
                    with self.subTest(name=name, other=other):
                        self.assertFalse(issubclass(getattr(errors, name), getattr(errors, other)))

    def test_each_is_raised_with_words_and_taken_as_hall_error(self):
        for name in NAMES:
            with self.subTest(name=name):
                with self.assertRaises(HallError) as taken:
                    raise getattr(errors, name)("why")
                self.assertEqual(str(taken.exception), "why")


if __name__ == "__main__":
    unittest.main()
