import itertools
import random
import unittest

from changehall.boxes import near
from changehall.errors import NoBasket, TooMany
from changehall.halls import hall_of
from changehall.plans import alike
from changehall.several import joined, met
from changehall.tables import pulled

from helper import LONG, asked_twice, edge_halls, led, long_halls, small_halls, some_row, wrong_baskets

# The greatest size for each number of kinds with at most 2000 baskets: 2 * 999 + 1 is 1999, 43 * 43 is 1849, ..
GREATEST = {1: 999, 2: 21, 3: 5, 4: 2, 5: 1, 6: 1}


def told_halls(seed):
    halls = [hall for hall in long_halls(seed) if hall[0] == 6]
    table = [[LONG, 1, 2, 3, 4, 5], [0, 1, -1, 0, 0, LONG]]
    return [joined(halls[0], halls[1]), met(halls[1], halls[2]), pulled(hall_of(2, []), table, halls[2])]


class NearTest(unittest.TestCase):
    def check(self, hall, basket, size):
        told = near(hall, basket, size)
        self.assertIs(type(told), list)
        self.assertTrue(all(type(each) is list for each in told))
        box = [list(each) for each in itertools.product(range(-size, size + 1), repeat=hall[0])]
        self.assertEqual(told, [each for each in box if alike(hall, basket, each)])

    def test_told(self):
        hall = hall_of(2, [[3, -1], [0, 4]])
        self.assertEqual(near(hall, [3, -1], 1), [[0, 0]])
        self.assertEqual(near(hall, [0, 0], 3), [[-3, -3], [-3, 1], [0, 0], [3, -1], [3, 3]])
        self.assertEqual(near(hall_of(1, [[2]]), [10 ** 40 + 1], 4), [[-3], [-1], [1], [3]])
        self.assertEqual(near(hall_of(1, []), [5], 4), [])
        self.assertEqual(near(hall_of(1, []), [-4], 4), [[-4]])

    def test_size_0(self):
        for hall in edge_halls() + small_halls(121, each=1) + told_halls(121):
            zero = [0] * hall[0]
            self.assertEqual(near(hall, zero, 0), [zero])
            self.assertEqual(near(hall, led(hall, zero, [10 ** 40] * len(hall[1])), 0), [zero])
            self.check(hall, [1] * hall[0], 0)

    def test_each_basket_of_the_box(self):
        source = random.Random(122)
        for hall in small_halls(122, each=1)[::2] + edge_halls() + told_halls(122):
            self.check(hall, some_row(source, hall[0], 3), min(2, GREATEST[hall[0]]))
            self.check(hall, some_row(source, hall[0], 10 ** 40), 1)

    def test_the_greatest_size_and_one_more(self):
        for kinds, size in GREATEST.items():
            self.assertLessEqual((2 * size + 1) ** kinds, 2000)
            self.assertGreater((2 * size + 3) ** kinds, 2000)
            for hall in [hall_of(kinds, []), hall_of(kinds, [[1] * kinds]), hall_of(kinds, [[LONG] + [0] * (kinds - 1)])]:
                self.check(hall, [1] * kinds, size)
                for great in [size + 1, size + 2, 10 ** 6, 10 ** 30, 10 ** 400]:
                    with self.assertRaises(TooMany):
                        near(hall, [1] * kinds, great)

    def test_all_of_the_box(self):
        self.assertEqual(len(near(hall_of(1, [[1]]), [0], 999)), 1999)
        self.assertEqual(len(near(hall_of(2, [[1, 0], [0, 1]]), [7, 7], 21)), 43 * 43)

    def test_no_basket_ahead_of_too_many(self):
        for kinds in range(1, 7):
            for wrong in wrong_baskets(kinds):
                for size in [0, 1, 10 ** 30]:
                    with self.assertRaises(NoBasket, msg=repr(wrong)):
                        near(hall_of(kinds, [[1] * kinds]), wrong, size)

    def test_what_is_handed_in_stays(self):
        for hall in edge_halls():
            self.assertTrue(asked_twice(near, [hall, [0] * hall[0], 1]))


if __name__ == "__main__":
    unittest.main()
