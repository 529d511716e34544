import math
import random
import unittest

from changehall.whole import bridge, product, rest

EDGES = [0, 1, 2, 3, 4, 6, 12, 35, 10 ** 20, 10 ** 20 + 39, 10 ** 39, 10 ** 40 - 1]


def of_figures(source, figures):
    number = source.randrange(10 ** (figures - 1), 10 ** figures)
    return number if source.randrange(2) else -number


class BridgeTest(unittest.TestCase):
    def check(self, a, b):
        told = bridge(a, b)
        self.assertIs(type(told), tuple)
        self.assertEqual([type(number) for number in told], [int, int, int])
        g, x, y = told
        self.assertEqual(g, math.gcd(a, b), (a, b))
        self.assertEqual(a * x + b * y, g, (a, b))

    def test_two_noughts(self):
        self.assertEqual(bridge(0, 0)[0], 0)
        self.check(0, 0)

    def test_nought_for_two_noughts_alone(self):
        for a in range(-5, 6):
            for b in range(-5, 6):
                self.assertEqual(bridge(a, b)[0] == 0, a == 0 and b == 0, (a, b))

    def test_small_numbers_of_either_sign(self):
        for a in range(-40, 41):
            for b in range(-40, 41):
                self.check(a, b)

    def test_edges_of_either_sign(self):
        for a in EDGES:
            for b in EDGES:
                for signed in [(a, b), (-a, b), (a, -b), (-a, -b)]:
                    self.check(*signed)

    def test_one_a_multiple_of_the_other(self):
        for a in [1, -1, 7, -12, 10 ** 19 + 51]:
            for often in [-3, -1, 0, 1, 2, 10 ** 20 + 1]:
                self.check(a, a * often)
                self.check(a * often, a)

    def test_numbers_of_1_to_40_figures(self):
        source = random.Random(1)
        for first in range(1, 41):
            for second in range(1, 41):
                self.check(of_figures(source, first), of_figures(source, second))

    def test_numbers_with_a_large_divisor_in_common(self):
        source = random.Random(2)
        for figures in range(1, 21):
            common = of_figures(source, 20)
            self.check(common * of_figures(source, figures), common * of_figures(source, 20))

    def test_the_longest_way_for_40_figures(self):
        # Neighbours among Fibonacci's numbers need the most steps.
        a, b = 1, 1
        while b < 10 ** 40:
            a, b = b, a + b
        for signed in [(a, b), (b, a), (-a, b), (b, -a)]:
            self.check(*signed)


class RestTest(unittest.TestCase):
    def check(self, a, part):
        told = rest(a, part)
        self.assertIs(type(told), int)
        self.assertGreaterEqual(told, 0, (a, part))
        self.assertLess(told, part, (a, part))
        self.assertEqual((a - told) // part * part, a - told, (a, part))

    def test_the_part_nought_leaves_all(self):
        for a in EDGES:
            self.assertEqual(rest(a, 0), a)
            self.assertEqual(rest(-a, 0), -a)

    def test_the_part_1_leaves_nought(self):
        for a in EDGES:
            self.assertEqual(rest(a, 1), 0)
            self.assertEqual(rest(-a, 1), 0)

    def test_small_numbers_of_either_sign(self):
        for a in range(-60, 61):
            for part in range(1, 30):
                self.check(a, part)

    def test_told_values(self):
        self.assertEqual(rest(7, 5), 2)
        self.assertEqual(rest(-7, 5), 3)
        self.assertEqual(rest(-5, 5), 0)
        self.assertEqual(rest(5, 5), 0)
        self.assertEqual(rest(-1, 10 ** 20), 10 ** 20 - 1)

    def test_long_numbers_and_parts(self):
        source = random.Random(3)
        for figures in range(1, 41):
            for part_figures in range(1, 22):
                self.check(of_figures(source, figures), abs(of_figures(source, part_figures)))


class ProductTest(unittest.TestCase):
    def test_of_none(self):
        self.assertEqual(product([]), 1)
        self.assertIs(type(product([])), int)

    def test_of_one(self):
        for number in [0, 1, -1, 7, -10 ** 29]:
            self.assertEqual(product([number]), number)

    def test_of_several(self):
        self.assertEqual(product([2, 3, 7]), 42)
        self.assertEqual(product([-2, 3]), -6)
        self.assertEqual(product([-2, -3, -1]), -6)
        self.assertEqual(product([4, 0, -9]), 0)
        self.assertEqual(product([0, 0]), 0)
        self.assertEqual(product([1, 1, 1, 1]), 1)

    def test_of_numbers_of_30_figures(self):
        source = random.Random(4)
        for length in range(2, 9):
            numbers = [of_figures(source, 30) for spot in range(length)]
            self.assertEqual(product(numbers), math.prod(numbers))

    def test_the_list_stays_as_it_was(self):
        numbers = [3, -10 ** 29, 0, 5]
        product(numbers)
        self.assertEqual(numbers, [3, -10 ** 29, 0, 5])


if __name__ == "__main__":
    unittest.main()
