import itertools
import random
import unittest

from changehall.classes import how_many
from changehall.errors import NotWithin, Unlike
from changehall.halls import hall_of
from changehall.plans import alike, plan
from changehall.several import index_in, joined, met, within
from changehall.stairs import stair, token

from helper import (LONG, asked_twice, edge_halls, led, long_hall, long_halls, plus, some_hall, some_row, times,
                    units)


def like_pairs(seed):
    source = random.Random(seed)
    pairs = [(some_hall(source, kinds, source.randrange(9), source.choice([1, 3, 12])),
              some_hall(source, kinds, source.randrange(9), source.choice([1, 3, 12])))
             for kinds in range(1, 7) for turn in range(8)]
    halls = edge_halls() + long_halls(seed)
    pairs += [(one, other) for one in halls for other in halls if one[0] == other[0]]
    return pairs + [(long_hall(source, 6, 8), long_hall(source, 6, 8)), (long_hall(source, 6, 3), long_hall(source, 6, 4))]


class JoinedAndMetTest(unittest.TestCase):
    def check_form(self, told, kinds):
        self.assertEqual([type(told), len(told)], [tuple, 2])
        self.assertEqual(told[0], kinds)
        self.assertIs(type(told[1]), tuple)
        self.assertTrue(all(type(bill) is tuple for bill in told[1]))
        self.assertEqual([tuple(row) for row in stair(told)], list(told[1]))

    def test_told_halls(self):
        one, other = hall_of(1, [[4]]), hall_of(1, [[6]])
        self.assertEqual(joined(one, other), (1, ((2,),)))
        self.assertEqual(met(one, other), (1, ((12,),)))
        one, other = hall_of(2, [[2, 0]]), hall_of(2, [[0, 3], [0, 5]])
        self.assertEqual(joined(one, other), (2, ((2, 0), (0, 1))))
        self.assertEqual(met(one, other), (2, ()))
        self.assertEqual(met(hall_of(2, [[1, 1], [0, 2]]), hall_of(2, [[3, 0], [0, 1]])), (2, ((3, 1), (0, 2))))

    def test_halls_without_bills(self):
        for kinds in range(1, 7):
            none = hall_of(kinds, [])
            some = hall_of(kinds, [[2] * kinds])
            row = tuple([2] * kinds)
            self.assertEqual(joined(none, none), (kinds, ()))
            self.assertEqual(met(none, none), (kinds, ()))
            self.assertEqual([joined(none, some), joined(some, none)], [(kinds, (row,))] * 2)
            self.assertEqual([met(none, some), met(some, none)], [(kinds, ())] * 2)

    def test_joined_by_bills_of_both(self):
        source = random.Random(81)
        for one, other in like_pairs(81):
            told = joined(one, other)
            self.check_form(told, one[0])
            self.assertEqual(told, joined(other, one))
            self.assertEqual(list(told[1]), [tuple(row) for row in stair((one[0], one[1] + other[1]))])
            basket = some_row(source, one[0], 99)
            there = led(other, led(one, basket, some_row(source, len(one[1]), 999)), some_row(source, len(other[1]), 999))
            self.assertTrue(alike(told, basket, there))
            for unit in units(one[0]):
                both = plan((one[0], one[1] + other[1]), basket, plus(basket, unit))
                self.assertEqual(alike(told, basket, plus(basket, unit)), both is not None)

    def test_met_just_where_alike_in_both(self):
        source = random.Random(82)
        for one, other in like_pairs(82):
            told = met(one, other)
            self.check_form(told, one[0])
            self.assertEqual(told, met(other, one))
            zero = [0] * one[0]
            for bill in told[1]:
                self.assertEqual([token(one, list(bill)), token(other, list(bill))], [zero, zero])
            for way in self.some_ways(source, one, other):
                self.assertEqual(alike(told, zero, way), alike(one, zero, way) and alike(other, zero, way))

    # Among them ways that are alike in both: multiples of one's bills by what the other makes of them.
    def some_ways(self, source, one, other):
        ways = [some_row(source, one[0], 9)] + units(one[0])
        ways += [led(one, [0] * one[0], some_row(source, len(one[1]), 9))]
        ways += [led(other, [0] * one[0], some_row(source, len(other[1]), 9))]
        for bill in one[1] + other[1]:
            ways += [list(bill), times(bill, how_many(other) or 1), times(bill, how_many(one) or 1)]
        return ways

    def test_classes_of_both_by_counting(self):
        for one, other in like_pairs(83):
            if None not in (how_many(one), how_many(other)):
                self.assertEqual(how_many(joined(one, other)) * how_many(met(one, other)), how_many(one) * how_many(other))

    def test_every_basket_of_a_square(self):
        source = random.Random(84)
        for turn in range(30):
            one, other = [some_hall(source, 2, source.randrange(4), 6) for each in range(2)]
            told = met(one, other)
            for way in itertools.product(range(-8, 9, 2), range(-8, 9)):
                both = alike(one, [0, 0], list(way)) and alike(other, [0, 0], list(way))
                self.assertEqual(alike(told, [0, 0], list(way)), both)

    def test_of_halls_that_were_told(self):
        halls = [hall for hall in long_halls(85) if hall[0] == 6]
        for one, other in itertools.pairwise(halls):
            first, second = joined(one, other), met(one, other)
            self.assertEqual(joined(first, second), first)
            self.assertEqual(met(first, second), second)
            self.check_form(met(second, halls[0]), 6)
            self.check_form(joined(second, halls[0]), 6)

    def test_what_is_handed_in_stays(self):
        for one, other in like_pairs(86)[:60]:
            for ask in [joined, met, within]:
                self.assertTrue(asked_twice(ask, [one, other]))


class WithinTest(unittest.TestCase):
    def test_within_itself_and_what_it_is_joined_to(self):
        for one, other in like_pairs(87):
            self.assertIs(within(one, one), True)
            self.assertEqual(index_in(one, one), 1)
            self.assertIs(within(one, joined(one, other)), True)
            self.assertIs(within(met(one, other), one), True)
            self.assertEqual(within(one, other), all(alike(other, list(bill), [0] * one[0]) for bill in one[1]))
            self.assertEqual(within(one, other), joined(one, other) == joined(other, other))

    def check_index(self, one, other):
        told = index_in(one, other)
        rows, others = stair(one), stair(other)
        self.assertEqual(told is None, len(rows) < len(others))
        if told is not None:
            self.assertIs(type(told), int)
            self.assertGreaterEqual(told, 1)
            if how_many(one) is not None:
                self.assertEqual(how_many(one), told * how_many(other))

    def test_index(self):
        for one, other in like_pairs(88):
            self.check_index(one, joined(one, other))
            self.check_index(met(one, other), one)
            self.check_index(met(one, other), other)
            self.check_index(met(one, other), joined(one, other))

    def test_told_indices(self):
        self.assertEqual(index_in(hall_of(1, [[12]]), hall_of(1, [[3]])), 4)
        self.assertEqual(index_in(hall_of(2, [[2, 4]]), hall_of(2, [[1, 2]])), 2)
        self.assertEqual(index_in(hall_of(2, [[6, 0], [0, 6]]), hall_of(2, [[3, -1], [0, 2]])), 6)
        self.assertEqual(index_in(hall_of(2, [[0, 15]]), hall_of(2, [[0, 5]])), 3)
        self.assertEqual(index_in(hall_of(1, [[LONG]]), hall_of(1, [[1]])), LONG)
        self.assertEqual(index_in(hall_of(2, []), hall_of(2, [[0, 0]])), 1)
        self.assertIsNone(index_in(hall_of(2, []), hall_of(2, [[0, 1]])))
        self.assertIsNone(index_in(hall_of(2, [[0, 2]]), hall_of(2, [[1, 0], [0, 1]])))

    def test_index_by_counting_classes(self):
        source = random.Random(89)
        for turn in range(40):
            kinds = source.randrange(1, 4)
            other = some_hall(source, kinds, 3, 4)
            one = (kinds, tuple(tuple(led(other, [0] * kinds, some_row(source, 3, 3))) for bill in range(3)))
            told = index_in(one, other)
            if told is not None and told <= 40:
                classes = {tuple([0] * kinds)}
                for round_again in range(told):
                    classes |= {tuple(token(one, plus(basket, bill))) for basket in classes for bill in other[1]}
                self.assertEqual(len(classes), told)

    def test_not_within(self):
        for one, other in [(hall_of(1, [[3]]), hall_of(1, [[12]])), (hall_of(1, [[1]]), hall_of(1, [])),
                           (hall_of(2, [[2, 0], [0, 1]]), hall_of(2, [[2, 0]])), (hall_of(2, [[1, 2]]), hall_of(2, [[2, 4]])),
                           (hall_of(1, [[LONG - 1]]), hall_of(1, [[LONG]]))]:
            self.assertIs(within(one, other), False)
            with self.assertRaises(NotWithin):
                index_in(one, other)
        for one, other in like_pairs(90):
            if not within(one, other):
                with self.assertRaises(NotWithin):
                    index_in(one, other)

    def test_unlike_kinds(self):
        for kinds in range(1, 7):
            for others in range(1, 7):
                if kinds != others:
                    for bills, other_bills in [([], []), ([[1] * kinds], []), ([[1] * kinds], [[1] * others])]:
                        one, other = hall_of(kinds, bills), hall_of(others, other_bills)
                        for ask in [joined, met, within, index_in]:
                            with self.assertRaises(Unlike):
                                ask(one, other)


if __name__ == "__main__":
    unittest.main()
