import itertools
import math
import random
import unittest

from changehall.classes import basket_at, how_many, order, parts, period, place
from changehall.errors import NoBasket, NoPlace
from changehall.halls import hall_of
from changehall.plans import alike
from changehall.several import joined, met
from changehall.stairs import stair, token

from helper import (LONG, asked_twice, edge_halls, heads_of, led, long_halls, plus, primes_of, small_halls, some_row,
                    times, units, wrong_baskets)


def told_halls(seed):
    halls = long_halls(seed)
    pairs = [(one, other) for one, other in itertools.pairwise(halls) if one[0] == other[0]]
    return [told for one, other in pairs for told in (joined(one, other), met(one, other))]


def all_halls(seed):
    return small_halls(seed) + long_halls(seed) + edge_halls() + told_halls(seed)


def as_rests(numbers, by):
    return [number % part if part else number for number, part in zip(numbers, by, strict=True)]


def some_place(source, by, size):
    return [source.randrange(part) if part else source.randint(-size, size) for part in by]


class PartsTest(unittest.TestCase):
    def test_told_parts(self):
        self.assertEqual(parts(hall_of(2, [[3, -1], [0, 4]])), [1, 12])
        self.assertEqual(parts(hall_of(2, [[2, 0], [0, 4]])), [2, 4])
        self.assertEqual(parts(hall_of(2, [[4, 0], [0, 6]])), [2, 12])
        self.assertEqual(parts(hall_of(3, [[6, 0, 0], [0, 10, 0], [0, 0, 15]])), [1, 30, 30])
        self.assertEqual(parts(hall_of(3, [[0, 0, 0]])), [0, 0, 0])
        self.assertEqual(parts(hall_of(3, [[0, 6, 4]])), [2, 0, 0])
        self.assertEqual(parts(hall_of(1, [[-LONG]])), [LONG])
        self.assertEqual(parts(hall_of(2, [[1, 0], [0, 1]])), [1, 1])

    def test_form(self):
        for hall in all_halls(51):
            told = parts(hall)
            rows = stair(hall)
            self.assertEqual([type(told), len(told)], [list, hall[0]])
            self.assertTrue(all(type(part) is int and part >= 0 for part in told))
            for one, other in itertools.pairwise(told):
                self.assertTrue(other == 0 if one == 0 else other % one == 0, told)
            self.assertEqual(told.count(0), hall[0] - len(rows))
            heads = math.prod(row[spot] for row, spot in zip(rows, heads_of(rows)))
            if 0 in told:
                self.assertIsNone(how_many(hall))
            else:
                self.assertEqual(math.prod(told), heads)
                self.assertEqual(how_many(hall), heads)

    def test_how_many(self):
        self.assertEqual(how_many(hall_of(2, [[3, -1], [0, 4]])), 12)
        self.assertEqual(how_many(hall_of(1, [[1]])), 1)
        self.assertEqual(how_many(hall_of(2, [[LONG, 0], [0, LONG]])), LONG * LONG)
        self.assertIsNone(how_many(hall_of(2, [[3, -1]])))
        self.assertIsNone(how_many(hall_of(1, [])))


class PlacesTest(unittest.TestCase):
    def test_rests_by_the_parts_and_sums(self):
        source = random.Random(52)
        for hall in all_halls(52):
            by = parts(hall)
            for size in [3, 10 ** 31]:
                one = some_row(source, hall[0], size)
                other = some_row(source, hall[0], size)
                told = place(hall, one)
                self.assertEqual([type(told), len(told)], [list, hall[0]])
                self.assertEqual(as_rests(told, by), told)
                self.assertEqual(place(hall, plus(one, other)), as_rests(plus(told, place(hall, other)), by))
            self.assertEqual(place(hall, [0] * hall[0]), [0] * hall[0])

    def test_equal_just_for_alike_baskets(self):
        source = random.Random(53)
        for hall in all_halls(53):
            one = some_row(source, hall[0], 99)
            reached = led(hall, one, some_row(source, len(hall[1]), 10 ** 9))
            self.assertEqual(place(hall, one), place(hall, reached))
            for unit in units(hall[0]):
                for often in [1, 2, 6]:
                    near = plus(one, times(unit, often))
                    self.assertEqual(place(hall, one) == place(hall, near), alike(hall, one, near))

    def test_as_many_places_as_tokens(self):
        for hall in small_halls(54, most_kinds=3, most_bills=4) + edge_halls():
            if hall[0] > 3:
                continue
            baskets = [list(basket) for basket in itertools.product(range(-3, 4), repeat=hall[0])]
            places = {tuple(place(hall, basket)): [] for basket in baskets[::5]}
            for basket in baskets[::5]:
                places[tuple(place(hall, basket))].append(tuple(token(hall, basket)))
            tokens = [set(each) for each in places.values()]
            self.assertTrue(all(len(each) == 1 for each in tokens))
            self.assertEqual(len(set.union(*tokens)), len(places))

    def test_equal_halls_give_equal_places(self):
        source = random.Random(55)
        for hall in small_halls(55) + long_halls(55):
            again = hall_of(hall[0], [list(bill) for bill in hall[1]])
            basket = some_row(source, hall[0], 999)
            self.assertEqual(place(hall, basket), place(again, basket))

    def test_basket_at_and_back(self):
        source = random.Random(56)
        for hall in all_halls(56):
            by = parts(hall)
            edges = [[part - 1 if part else 10 ** 40 for part in by], [part - 1 if part else -10 ** 40 for part in by],
                     [0] * hall[0], some_place(source, by, 5), some_place(source, by, 10 ** 50)]
            for numbers in edges:
                told = basket_at(hall, numbers)
                self.assertEqual([type(told), len(told)], [list, hall[0]])
                self.assertTrue(all(type(number) is int for number in told))
                self.assertEqual(place(hall, told), numbers)

    def test_every_place_of_small_halls(self):
        for bills in [[[3, -1], [0, 4]], [[2, 0], [0, 4]], [[4, 2], [2, 4]], [[1, 0], [0, 1]], [[6, 0], [0, 10]]]:
            hall = hall_of(2, bills)
            told = [basket_at(hall, list(numbers)) for numbers in itertools.product(*map(range, parts(hall)))]
            self.assertEqual(len({tuple(token(hall, basket)) for basket in told}), how_many(hall))

    def refused(self, hall, numbers):
        with self.assertRaises(NoPlace, msg=repr((hall, numbers))):
            basket_at(hall, numbers)

    def test_what_is_no_place(self):
        for hall in edge_halls() + small_halls(57, each=1):
            for wrong in wrong_baskets(hall[0]):
                self.refused(hall, wrong)
            for spot, part in enumerate(parts(hall)):
                for number in [-1, -10 ** 40, part, part + 1, 10 ** 10 * part] if part else []:
                    self.refused(hall, [number if at == spot else 0 for at in range(hall[0])])

    def test_what_is_handed_in_stays(self):
        source = random.Random(58)
        for hall in edge_halls():
            basket = some_row(source, hall[0], 99)
            self.assertTrue(asked_twice(parts, [hall]))
            self.assertTrue(asked_twice(place, [hall, basket]))
            self.assertTrue(asked_twice(basket_at, [hall, place(hall, basket)]))


class OrderTest(unittest.TestCase):
    def test_told_orders(self):
        hall = hall_of(2, [[3, -1], [0, 4]])
        self.assertEqual([order(hall, basket) for basket in [[0, 0], [1, 0], [0, 1], [0, 2], [3, 0]]], [1, 12, 4, 2, 4])
        self.assertEqual(order(hall_of(1, [[LONG]]), [1]), LONG)
        self.assertIsNone(order(hall_of(1, []), [1]))
        self.assertEqual(order(hall_of(1, []), [0]), 1)
        self.assertIsNone(order(hall_of(2, [[2, 4]]), [1, 0]))
        self.assertEqual(order(hall_of(2, [[2, 4]]), [-1, -2]), 2)

    def test_least_multiple_that_is_alike_to_nought(self):
        source = random.Random(59)
        for hall in small_halls(59, each=4, most_kinds=4) + edge_halls():
            zero = [0] * hall[0]
            self.assertEqual(order(hall, zero), 1)
            basket = some_row(source, hall[0], 12)
            told = order(hall, basket)
            if told is None:
                self.assertTrue(any(number for number, part in zip(place(hall, basket), parts(hall)) if not part))
                self.assertFalse(any(alike(hall, times(basket, often), zero) for often in range(1, 40)))
            else:
                self.assertIs(type(told), int)
                self.assertGreaterEqual(told, 1)
                self.assertTrue(alike(hall, times(basket, told), zero))
                if told < 10 ** 9:
                    for prime in primes_of(told):
                        self.assertFalse(alike(hall, times(basket, told // prime), zero))

    def test_long_orders_by_places(self):
        source = random.Random(60)
        for hall in long_halls(60) + told_halls(60):
            basket = some_row(source, hall[0], LONG)
            wanted = 1
            for number, part in zip(place(hall, basket), parts(hall)):
                if part == 0:
                    wanted = wanted if number == 0 else None
                elif wanted is not None:
                    wanted = math.lcm(wanted, part // math.gcd(part, number))
            self.assertEqual(order(hall, basket), wanted)

    def test_period(self):
        self.assertEqual(period(hall_of(2, [[3, -1], [0, 4]])), 12)
        self.assertEqual(period(hall_of(2, [[2, 0], [0, 2]])), 2)
        self.assertEqual(period(hall_of(2, [[4, 0], [0, 6]])), 12)
        self.assertEqual(period(hall_of(1, [[1]])), 1)
        self.assertIsNone(period(hall_of(2, [[4, 0]])))
        for hall in all_halls(61):
            told = period(hall)
            self.assertEqual(told is None, 0 in parts(hall))
            if told is not None:
                self.assertEqual(order(hall, basket_at(hall, [1 % part for part in parts(hall)])), told)
                for unit in units(hall[0]):
                    self.assertEqual(told % order(hall, unit), 0)

    def test_greatest_order_of_all(self):
        for hall in small_halls(62, most_kinds=3, most_bills=4) + edge_halls():
            if how_many(hall) is not None and how_many(hall) <= 60:
                baskets = [basket_at(hall, list(numbers)) for numbers in itertools.product(*map(range, parts(hall)))]
                self.assertEqual(max(order(hall, basket) for basket in baskets), period(hall))

    def test_what_is_handed_in_stays(self):
        for hall in edge_halls():
            self.assertTrue(asked_twice(order, [hall, [2] * hall[0]]))

    def test_wrong_baskets(self):
        for kinds in range(1, 7):
            for hall in [hall_of(kinds, []), hall_of(kinds, [[1] * kinds])]:
                for wrong in wrong_baskets(kinds):
                    for ask in [place, order]:
                        with self.assertRaises(NoBasket, msg=repr(wrong)):
                            ask(hall, wrong)


if __name__ == "__main__":
    unittest.main()
