import itertools
import random
import unittest

from changehall.errors import NoBasket
from changehall.halls import hall_of
from changehall.plans import alike, plan
from changehall.scales import denial, even, fair, judged, scales
from changehall.several import joined, met

from helper import (LONG, asked_twice, edge_halls, led, long_halls, minus, plus, small_halls, some_row, times,
                    units, wrong_baskets)


def weight(basket, weights):
    return sum(a * b for a, b in zip(basket, weights, strict=True))


def is_even(one, other, scale):
    way = weight(minus(one, other), scale[0])
    return way == 0 if scale[1] == 0 else way % scale[1] == 0


def all_halls(seed):
    halls = long_halls(seed)
    pairs = [(one, other) for one, other in itertools.pairwise(halls) if one[0] == other[0]]
    told = [told for one, other in pairs for told in (joined(one, other), met(one, other))]
    return small_halls(seed) + halls + edge_halls() + told


# Baskets that are alike, near, half a bill off, and off in every kind.
def some_pairs(source, hall):
    one = some_row(source, hall[0], 30)
    others = [one, led(hall, one, some_row(source, len(hall[1]), 10 ** 10)), some_row(source, hall[0], 10 ** 30)]
    others += [plus(one, unit) for unit in units(hall[0])]
    others += [plus(one, [number // 2 for number in bill]) for bill in hall[1]]
    return [(one, other) for other in others] + [(other, one) for other in others]


class ScalesTest(unittest.TestCase):
    def test_form_and_fairness(self):
        for hall in all_halls(71):
            told = scales(hall)
            self.assertIs(type(told), list)
            for scale in told:
                self.assertEqual([type(scale), len(scale)], [tuple, 2])
                self.assertEqual([type(scale[0]), len(scale[0])], [list, hall[0]])
                self.assertTrue(all(type(number) is int for number in scale[0]))
                self.assertIs(type(scale[1]), int)
                self.assertGreaterEqual(scale[1], 0)
                self.assertIs(fair(hall, scale), True)
                for bill in hall[1]:
                    self.assertIs(even(list(bill), [0] * hall[0], scale), True)
                    self.assertTrue(is_even(list(bill), [0] * hall[0], scale))

    def test_even_on_all_just_where_there_is_a_plan(self):
        source = random.Random(72)
        for hall in all_halls(72):
            told = scales(hall)
            for one, other in some_pairs(source, hall):
                self.assertEqual(all(is_even(one, other, scale) for scale in told), plan(hall, one, other) is not None)

    def test_all_alike(self):
        for hall in [hall_of(1, [[1]]), hall_of(2, [[1, 7], [0, -1]])]:
            for scale in scales(hall):
                self.assertIs(even([0] * hall[0], [5] * hall[0], scale), True)

    def test_even_at_scales_of_ones_own(self):
        self.assertIs(even([1, 2], [3, 1], ([1, 2], 0)), True)
        self.assertIs(even([1, 2], [3, 2], ([1, 2], 0)), False)
        self.assertIs(even([1, 2], [3, 2], ([1, 2], 1)), True)
        self.assertIs(even([1, 2], [3, 2], ([1, 2], 2)), True)
        self.assertIs(even([1, 2], [3, 2], ([1, 2], 3)), False)
        self.assertIs(even([-1], [5], ([-1], 3)), True)
        self.assertIs(even([-1], [5], ([-1], 4)), False)
        self.assertIs(even([LONG], [-LONG], ([LONG], 2 * LONG)), True)
        self.assertIs(even([LONG], [-LONG], ([LONG], 4 * LONG)), False)
        self.assertIs(even([3, 4], [5, 6], ([0, 0], 0)), True)
        source = random.Random(73)
        for turn in range(500):
            kinds = source.randrange(1, 7)
            one, other, weights = [some_row(source, kinds, 4) for each in range(3)]
            scale = (weights, source.randrange(6))
            self.assertIs(even(one, other, scale), is_even(one, other, scale))

    def test_fair_at_scales_of_ones_own(self):
        hall = hall_of(2, [[3, -1], [0, 4]])
        for scale, wanted in [(([4, 0], 12), True), (([1, 3], 12), True), (([1, 3], 6), True), (([1, 3], 5), False),
                              (([1, 3], 0), False), (([0, 0], 0), True), (([5, 7], 1), True), (([-1, -3], 4), True),
                              (([1, 0], 3), True), (([1, 0], 2), False), (([0, 1], 2), False)]:
            self.assertIs(fair(hall, scale), wanted, scale)
        self.assertIs(fair(hall_of(2, [[2, 4]]), ([2, -1], 0)), True)
        self.assertIs(fair(hall_of(2, [[2, 4]]), ([2, 1], 0)), False)
        self.assertIs(fair(hall_of(2, []), ([2, 1], 0)), True)
        source = random.Random(74)
        for turn in range(500):
            hall = hall_of(2, [some_row(source, 2, 4) for bill in range(source.randrange(3))])
            scale = (some_row(source, 2, 4), source.randrange(6))
            self.assertIs(fair(hall, scale), all(is_even(list(bill), [0, 0], scale) for bill in hall[1]))

    def test_what_is_handed_in_stays(self):
        for hall in edge_halls():
            self.assertTrue(asked_twice(scales, [hall]))
            scale = ([3] * hall[0], 4)
            self.assertTrue(asked_twice(even, [[1] * hall[0], [2] * hall[0], scale]))
            self.assertTrue(asked_twice(fair, [hall, scale]))


class DenialTest(unittest.TestCase):
    def check(self, hall, one, other):
        uses = plan(hall, one, other)
        told = denial(hall, one, other)
        self.assertNotEqual(uses is None, told is None)
        self.assertIs(alike(hall, one, other), told is None)
        if told is None:
            self.assertEqual(judged(hall, one, other), ("plan", uses))
            self.assertEqual(led(hall, one, uses), other)
        else:
            self.check_denial(hall, one, other, told)
            word, scale = judged(hall, one, other)
            self.assertEqual(word, "denial")
            self.check_denial(hall, one, other, scale)

    def check_denial(self, hall, one, other, scale):
        self.assertEqual([type(scale), len(scale)], [tuple, 2])
        self.assertEqual([type(scale[0]), len(scale[0])], [list, hall[0]])
        self.assertIs(type(scale[1]), int)
        self.assertGreaterEqual(scale[1], 2)
        self.assertTrue(fair(hall, scale))
        self.assertTrue(all(weight(bill, scale[0]) % scale[1] == 0 for bill in hall[1]))
        self.assertFalse(even(one, other, scale))
        self.assertFalse(is_even(one, other, scale))

    def test_just_one_of_plan_and_denial(self):
        source = random.Random(75)
        for hall in all_halls(75):
            for one, other in some_pairs(source, hall):
                self.check(hall, one, other)

    def test_a_kind_that_no_bill_touches(self):
        for often in [1, -1, 2, -12, 10 ** 40, -10 ** 40]:
            for hall, one in [(hall_of(2, [[5, 0]]), [3, 4]), (hall_of(2, []), [0, 0]), (hall_of(2, [[0, 0]]), [1, 1])]:
                self.assertIsNotNone(denial(hall, one, plus(one, [0, often])))
                self.check(hall, one, plus(one, [0, often]))
                self.check(hall, plus(one, [0, often]), one)

    def test_half_a_bill(self):
        source = random.Random(76)
        for kinds in range(1, 7):
            for figures in [1, 14, 29]:
                half = [source.randrange(1, 10 ** figures) for spot in range(kinds)]
                hall = hall_of(kinds, [times(half, 2)])
                self.assertIsNotNone(denial(hall, [0] * kinds, half))
                self.check(hall, [0] * kinds, half)
                self.check(hall, half, [7] * kinds)

    def test_every_pair_of_a_small_hall(self):
        for bills in [[[3, -1], [0, 4]], [[2, 4]], [[2, 0], [0, 2]], [[1, 1]], []]:
            hall = hall_of(2, bills)
            for one in itertools.product(range(-4, 5), repeat=2):
                self.check(hall, list(one), [0, 0])

    def test_what_is_handed_in_stays(self):
        for hall in edge_halls():
            for ask in [denial, judged]:
                self.assertTrue(asked_twice(ask, [hall, [1] * hall[0], [2] * hall[0]]))
                self.assertTrue(asked_twice(ask, [hall, [2] * hall[0], [2] * hall[0]]))

    def test_wrong_baskets(self):
        for kinds in range(1, 7):
            hall = hall_of(kinds, [[2] * kinds])
            for wrong in wrong_baskets(kinds):
                for pair in [(wrong, [0] * kinds), ([0] * kinds, wrong), (wrong, wrong), ([1] * kinds, wrong)]:
                    for ask in [denial, judged]:
                        with self.assertRaises(NoBasket, msg=repr(pair)):
                            ask(hall, *pair)
                    with self.assertRaises(NoBasket, msg=repr(pair)):
                        even(pair[0], pair[1], ([1] * kinds, 2))


if __name__ == "__main__":
    unittest.main()
