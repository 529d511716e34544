import itertools
import random
import unittest

from changehall.classes import how_many
from changehall.errors import NoBasket, TooMany
from changehall.halls import hall_of
from changehall.plans import alike
from changehall.several import joined, met
from changehall.stairs import token
from changehall.tables import pulled
from changehall.thrift import classes, thrifty

from helper import LONG, asked_twice, edge_halls, led, long_halls, small_halls, some_row, units, wrong_baskets


# All baskets of so many kinds with just that sum of sizes.
def baskets_of_size(kinds, size):
    if kinds == 1:
        return [[size], [-size]] if size else [[0]]
    return [[first] + others for first in range(-size, size + 1) for others in baskets_of_size(kinds - 1, size - abs(first))]


def few(hall):
    return how_many(hall) is not None and how_many(hall) <= 200


def diagonal(numbers):
    return hall_of(len(numbers), [[often * number for number in row] for often, row in zip(numbers, units(len(numbers)))])


def halls_with_few():
    halls = [hall for hall in small_halls(101, each=4) + edge_halls() if few(hall)]
    return halls + [diagonal([2, 3]), diagonal([200]), diagonal([4, 5, 10]), diagonal([2, 2, 2, 5, 5, 1]),
                    hall_of(2, [[1, -200], [0, 200]]), hall_of(2, [[1, 14], [0, 199]]), hall_of(2, [[200, 0], [7, 1]]),
                    hall_of(3, [[1, 3, 9], [0, 1, 5], [0, 0, 27]])]


# The least steps to each class by going through all baskets, size by size.
def steps_by_size(hall):
    steps = {}
    for size in itertools.count():
        for basket in baskets_of_size(hall[0], size):
            steps.setdefault(tuple(token(hall, basket)), size)
        if len(steps) == how_many(hall):
            return steps


class ClassesTest(unittest.TestCase):
    def check(self, hall):
        told = classes(hall)
        self.assertIs(type(told), list)
        self.assertEqual(len(told), how_many(hall))
        for each in told:
            self.assertEqual([type(each), len(each)], [tuple, 3])
            reached, steps, basket = each
            self.assertEqual([type(reached), type(steps), type(basket)], [list, int, list])
            self.assertEqual(token(hall, reached), reached)
            self.assertEqual(token(hall, basket), reached)
            self.assertEqual(sum(map(abs, basket)), steps)
        self.assertEqual(len({tuple(reached) for reached, steps, basket in told}), len(told))
        self.assertEqual([(steps, reached) for reached, steps, basket in told],
                         sorted((steps, reached) for reached, steps, basket in told))
        return told

    def test_form(self):
        for hall in halls_with_few():
            self.check(hall)

    def test_no_lesser_sum(self):
        for hall in halls_with_few():
            if hall[0] <= 3 or how_many(hall) <= 12:
                told = {tuple(reached): steps for reached, steps, basket in classes(hall)}
                self.assertEqual(told, steps_by_size(hall))

    def test_told_classes(self):
        self.assertEqual(classes(hall_of(1, [[1]])), [([0], 0, [0])])
        self.assertEqual(classes(hall_of(1, [[3]])), [([0], 0, [0]), ([1], 1, [1]), ([2], 1, [-1])])
        self.assertEqual([(reached, steps) for reached, steps, basket in classes(hall_of(2, [[1, 3], [0, 5]]))],
                         [([0, 0], 0), ([0, 1], 1), ([0, 2], 1), ([0, 3], 1), ([0, 4], 1)])

    def test_200_are_told(self):
        for hall in [hall_of(1, [[200]]), hall_of(1, [[-200]]), hall_of(2, [[1, -200], [0, 200]]), diagonal([8, 25]),
                     hall_of(2, [[1, 200 - 7], [0, 200]]), diagonal([1, 2, 2, 2, 5, 5])]:
            self.assertEqual(len(self.check(hall)), 200)

    def test_201_and_more_are_refused(self):
        for hall in [hall_of(1, [[201]]), hall_of(2, [[1, -7], [0, 201]]), diagonal([3, 67]), diagonal([1000, 1000]),
                     hall_of(1, [[LONG]]), hall_of(2, [[LONG, 0], [0, LONG]]), hall_of(1, []), hall_of(2, [[1, -200]]),
                     hall_of(6, []), hall_of(3, [[0, 0, 0]]), diagonal([3, 3, 3, 3, 3, 1])]:
            with self.assertRaises(TooMany):
                classes(hall)
            with self.assertRaises(TooMany):
                thrifty(hall, [0] * hall[0])

    def test_of_long_halls(self):
        for hall in long_halls(102):
            if few(hall):
                self.check(hall)
            else:
                with self.assertRaises(TooMany):
                    classes(hall)

    def test_of_halls_that_were_told(self):
        one, other = diagonal([4, 3]), hall_of(2, [[3, -1], [0, 4]])
        for hall in [joined(one, other), met(one, other), pulled(one, [[1, 1], [2, -1]], other)]:
            self.assertEqual({tuple(reached): steps for reached, steps, basket in self.check(hall)}, steps_by_size(hall))

    def test_what_is_told_is_new_each_time(self):
        for hall in halls_with_few()[:20]:
            self.assertTrue(asked_twice(classes, [hall]))
        told = classes(hall_of(1, [[3]]))
        told[0][0].append(1)
        self.assertEqual(told[0][2], [0])


class ThriftyTest(unittest.TestCase):
    def test_the_basket_of_its_class(self):
        source = random.Random(103)
        for hall in halls_with_few():
            told = {tuple(reached): basket for reached, steps, basket in classes(hall)}
            for size in [3, 10 ** 40]:
                basket = some_row(source, hall[0], size)
                found = thrifty(hall, basket)
                self.assertIs(type(found), list)
                self.assertEqual(found, told[tuple(token(hall, basket))])
                self.assertTrue(alike(hall, basket, found))
                self.assertEqual(thrifty(hall, led(hall, basket, some_row(source, len(hall[1]), 99))), found)

    def test_told(self):
        self.assertEqual(thrifty(hall_of(1, [[200]]), [199]), [-1])
        self.assertEqual(thrifty(hall_of(1, [[200]]), [-10 ** 40 + 3]), [3])
        self.assertEqual(thrifty(hall_of(2, [[1, 0], [0, 1]]), [5, 7]), [0, 0])

    def test_no_basket_ahead_of_too_many(self):
        for kinds in range(1, 7):
            for hall in [hall_of(kinds, []), diagonal([201] * kinds), diagonal([2] * kinds)]:
                for wrong in wrong_baskets(kinds):
                    with self.assertRaises(NoBasket, msg=repr(wrong)):
                        thrifty(hall, wrong)

    def test_what_is_handed_in_stays(self):
        for hall in halls_with_few()[:20]:
            self.assertTrue(asked_twice(thrifty, [hall, [9] * hall[0]]))


if __name__ == "__main__":
    unittest.main()
