import math
import random
import unittest

from changehall.classes import order
from changehall.errors import NoBasket, TooMany
from changehall.halls import hall_of
from changehall.plans import alike
from changehall.primes import parted, prime_powers
from changehall.several import joined, met

from helper import LONG, asked_twice, edge_halls, long_halls, plus, primes_of, small_halls, some_row, wrong_baskets


def power_in(prime, number):
    power = 1
    while number % (power * prime) == 0:
        power *= prime
    return power


class PrimePowersTest(unittest.TestCase):
    def test_by_the_long_way(self):
        for number in list(range(1, 2000)) + [999983, 999999, 10 ** 6, 991 * 997, 2 ** 19, 3 ** 12, 510510, 720720]:
            told = prime_powers(number)
            self.assertEqual([prime for prime, power in told], primes_of(number))
            self.assertEqual([power for prime, power in told], [power_in(prime, number) for prime in primes_of(number)])


class PartedTest(unittest.TestCase):
    def check(self, hall, basket):
        whole = order(hall, basket)
        told = parted(hall, basket)
        self.assertIs(type(told), list)
        self.assertTrue(all(type(pair) is tuple and len(pair) == 2 for pair in told))
        self.assertEqual([prime for prime, part in told], primes_of(whole))
        total = [0] * hall[0]
        for prime, part in told:
            self.assertEqual([type(prime), type(part), len(part)], [int, list, hall[0]])
            self.assertEqual(order(hall, part), power_in(prime, whole))
            total = plus(total, part)
        self.assertTrue(alike(hall, total, basket))

    def test_told(self):
        self.assertEqual(parted(hall_of(1, [[7]]), [0]), [])
        self.assertEqual(parted(hall_of(1, [[7]]), [14]), [])
        self.assertEqual(parted(hall_of(1, []), [0]), [])
        told = parted(hall_of(1, [[12]]), [1])
        self.assertEqual([(prime, part[0] % 12) for prime, part in told], [(2, 9), (3, 4)])

    def test_orders_up_to_the_bound(self):
        for number in [1, 2, 4, 6, 12, 30, 30030, 510510, 720720, 65536, 999983, 999999, 1000000, 991 * 997, 2 * 499979]:
            self.check(hall_of(1, [[number]]), [1])
            self.check(hall_of(1, [[number]]), [-1 - 10 ** 12 * number])
            self.check(hall_of(2, [[number, 0], [3, 1]]), [1, 0])
            self.check(hall_of(2, [[10 ** 20 * number, 0], [0, LONG]]), [10 ** 20, 0])

    def test_small_halls(self):
        source = random.Random(111)
        for hall in small_halls(111, each=4) + edge_halls() + long_halls(111):
            for size in [1, 9, 10 ** 30]:
                basket = some_row(source, hall[0], size)
                whole = order(hall, basket)
                if whole is not None and whole <= 1000000:
                    self.check(hall, basket)
                else:
                    self.refused(hall, basket)

    def refused(self, hall, basket):
        with self.assertRaises(TooMany):
            parted(hall, basket)

    def test_too_many(self):
        for number in [1000001, 1000003, 1009 * 1013, 2 ** 20, LONG, 10 ** 29 + 319]:
            self.assertEqual(order(hall_of(1, [[number]]), [1]), number)
            self.refused(hall_of(1, [[number]]), [1])
            self.refused(hall_of(2, [[number, 0], [5, 1]]), [1, 0])
        # Two primes of 15 figures: no search for them may be begun.
        self.refused(hall_of(1, [[(10 ** 14 + 31) * (10 ** 14 + 67)]]), [1])
        self.refused(hall_of(1, []), [1])
        self.refused(hall_of(2, [[0, 6]]), [1, 0])
        self.refused(hall_of(2, [[2, 4]]), [2, 3])
        self.refused(hall_of(3, [[0, 0, 0]]), [0, 0, -LONG])

    def test_great_numbers_with_small_orders(self):
        self.check(hall_of(1, [[6 * (10 ** 28 + 7)]]), [10 ** 28 + 7])
        one, other = hall_of(2, [[LONG, 1], [0, 30]]), hall_of(2, [[1, LONG], [0, 30]])
        for hall in [joined(one, other), met(one, other)]:
            for basket in [[LONG, 0], [0, 1], [0, 5], [30 * LONG, 7]]:
                if order(hall, basket) is not None and order(hall, basket) <= 1000000:
                    self.check(hall, basket)

    def test_no_basket_ahead_of_too_many(self):
        for kinds in range(1, 7):
            for hall in [hall_of(kinds, []), hall_of(kinds, [[LONG] * kinds])]:
                for wrong in wrong_baskets(kinds):
                    with self.assertRaises(NoBasket, msg=repr(wrong)):
                        parted(hall, wrong)

    def test_what_is_handed_in_stays(self):
        self.assertTrue(asked_twice(parted, [hall_of(1, [[60]]), [7]]))
        self.assertTrue(asked_twice(parted, [hall_of(2, [[60, 0], [0, 7]]), [1, 1]]))
        basket = [1]
        told = parted(hall_of(1, [[5]]), basket)
        basket[0] = 2
        self.assertEqual(told, [(5, [1])])
        self.assertEqual(math.prod(prime for prime, part in parted(hall_of(1, [[30]]), [1])), 30)


if __name__ == "__main__":
    unittest.main()
