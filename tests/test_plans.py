import math
import random
import unittest

from changehall.errors import NoBasket
from changehall.halls import hall_of
from changehall.plans import alike, idle, idle_by, plan, settled
from changehall.stairs import stair

from helper import (LONG, asked_twice, edge_halls, heads_of, led, long_halls, of_figures, plus, small_halls, some_row,
                    times, wrong_baskets)


def all_halls(seed):
    return small_halls(seed) + long_halls(seed) + edge_halls()


class PlansTest(unittest.TestCase):
    def check_plan(self, hall, one, other):
        for ask in [plan, settled]:
            told = ask(hall, one, other)
            self.assertIs(type(told), list)
            self.assertEqual([type(often) for often in told], [int] * len(hall[1]))
            self.assertEqual(led(hall, one, told), other)
        self.assertIs(alike(hall, one, other), True)

    def check_none(self, hall, one, other):
        self.assertIsNone(plan(hall, one, other))
        self.assertIsNone(settled(hall, one, other))
        self.assertIs(alike(hall, one, other), False)

    def test_told_plans(self):
        hall = hall_of(2, [[3, -1], [0, 4]])
        self.assertEqual(plan(hall, [1, 1], [7, 3]), [2, 1])
        self.assertEqual(plan(hall, [7, 3], [1, 1]), [-2, -1])
        self.assertEqual(plan(hall, [5, -5], [5, -5]), [0, 0])
        self.assertEqual(plan(hall_of(3, []), [1, 2, 3], [1, 2, 3]), [])

    def test_plans_that_are_walked_lead_there(self):
        source = random.Random(31)
        for hall in all_halls(31):
            for size in [2, 1000, 10 ** 30]:
                one = some_row(source, hall[0], size)
                other = led(hall, one, some_row(source, len(hall[1]), size))
                self.check_plan(hall, one, other)
                self.check_plan(hall, other, one)
            self.check_plan(hall, one, list(one))

    def test_none_for_less_than_the_bills_reach(self):
        source = random.Random(32)
        for hall in all_halls(32):
            for row, spot in zip(stair(hall), heads_of(stair(hall))):
                if row[spot] > 1:
                    one = some_row(source, hall[0], 50)
                    off = list(one)
                    off[spot] += source.randrange(1, row[spot])
                    self.check_none(hall, one, off)
                    self.check_none(hall, off, one)
        self.check_none(hall_of(1, [[12], [-18]]), [0], [3])
        self.check_none(hall_of(1, [[LONG]]), [0], [LONG - 1])
        self.check_none(hall_of(2, [[2, 4]]), [0, 0], [1, 2])

    def test_none_in_a_kind_that_no_bill_touches(self):
        for often in [1, -1, 10 ** 40]:
            self.check_none(hall_of(2, [[1, 0]]), [3, 4], [3, 4 + often])
            self.check_none(hall_of(2, [[0, 1]]), [3, 4], [3 + often, 4])
            self.check_none(hall_of(1, []), [4], [4 + often])
            self.check_none(hall_of(1, [[0], [0]]), [4], [4 + often])
            self.check_none(hall_of(6, [[1, 2, 0, 3, 4, 5]]), [0] * 6, [0, 0, often, 0, 0, 0])

    def test_just_where_going_through_small_uses_leads(self):
        hall = hall_of(2, [[4, 6], [6, 4]])
        reached = {tuple(led(hall, [0, 0], [a, b])) for a in range(-30, 31) for b in range(-30, 31)}
        for first in range(-12, 13):
            for second in range(-12, 13):
                self.assertEqual(alike(hall, [1, 2], [1 + first, 2 + second]), (first, second) in reached)

    def test_settled_at_the_heads_of_the_idle_rounds(self):
        source = random.Random(33)
        for hall in all_halls(33):
            many = len(hall[1])
            rows = stair((many, tuple(tuple(each) for each in idle(hall)))) if many else []
            one = some_row(source, hall[0], 10 ** 9)
            uses = some_row(source, many, 10 ** 31)
            told = settled(hall, one, led(hall, one, uses))
            self.assertEqual(led(hall, one, told), led(hall, one, uses))
            for row, spot in zip(rows, heads_of(rows)):
                self.assertIn(told[spot], range(row[spot]))

    def test_settled_is_one_and_the_same(self):
        source = random.Random(34)
        for hall in all_halls(34):
            one = some_row(source, hall[0], 99)
            other = led(hall, one, some_row(source, len(hall[1]), 99))
            told = settled(hall, one, other)
            for size in [5, 10 ** 35]:
                more = some_row(source, hall[0], size)
                self.assertEqual(settled(hall, plus(one, more), plus(other, more)), told)

    def test_told_settled_plans(self):
        self.assertEqual(settled(hall_of(1, [[2], [3]]), [0], [1]), [2, -1])
        self.assertEqual(settled(hall_of(1, [[1], [1]]), [0], [5]), [0, 5])
        self.assertEqual(settled(hall_of(1, [[0], [1]]), [0], [5]), [0, 5])
        self.assertEqual(settled(hall_of(1, [[0]]), [5], [5]), [0])

    def test_what_is_handed_in_stays(self):
        for hall in edge_halls():
            one = [7] * hall[0]
            other = led(hall, one, [3] * len(hall[1]))
            for ask in [alike, plan, settled]:
                self.assertTrue(asked_twice(ask, [hall, one, other]))
                self.assertTrue(asked_twice(ask, [hall, one, one]))

    def test_wrong_baskets(self):
        for kinds in range(1, 7):
            for hall in [hall_of(kinds, []), hall_of(kinds, [[1] * kinds] * 2)]:
                for wrong in wrong_baskets(kinds):
                    for ask in [alike, plan, settled]:
                        for pair in [(wrong, [0] * kinds), ([0] * kinds, wrong), (wrong, wrong), ([5] * kinds, wrong)]:
                            with self.assertRaises(NoBasket, msg=repr(pair)):
                                ask(hall, *pair)


class IdleTest(unittest.TestCase):
    def test_as_many_as_bills_less_rows_and_leading_nowhere(self):
        for hall in all_halls(35):
            rounds = idle(hall)
            self.assertIs(type(rounds), list)
            self.assertEqual(len(rounds), len(hall[1]) - len(stair(hall)))
            for each in rounds:
                self.assertEqual([type(each), len(each)], [list, len(hall[1])])
                self.assertEqual(led(hall, [0] * hall[0], each), [0] * hall[0])

    def made_of(self, rounds, often, many):
        return led((many, rounds), [0] * many, often)

    def test_told_back_with_just_these_numbers(self):
        source = random.Random(36)
        for hall in all_halls(36):
            rounds = idle(hall)
            for size in [0, 4, 10 ** 40]:
                often = some_row(source, len(rounds), size)
                self.assertEqual(idle_by(hall, self.made_of(rounds, often, len(hall[1]))), often)

    def test_none_for_uses_that_lead_somewhere(self):
        source = random.Random(37)
        for hall in all_halls(37):
            for size in [1, 3, 10 ** 20]:
                uses = some_row(source, len(hall[1]), size)
                nowhere = led(hall, [0] * hall[0], uses) == [0] * hall[0]
                self.assertEqual(idle_by(hall, uses) is not None, nowhere)
        self.assertIsNone(idle_by(hall_of(1, [[2], [3]]), [3, 2]))
        self.assertIsNone(idle_by(hall_of(1, [[2]]), [1]))
        self.assertEqual(idle_by(hall_of(1, []), []), [])

    def check_made_up(self, hall, uses):
        told = idle_by(hall, uses)
        self.assertIs(type(told), list)
        self.assertEqual([type(often) for often in told], [int] * len(idle(hall)))
        self.assertEqual(self.made_of(idle(hall), told, len(hall[1])), uses)

    def test_a_bill_that_is_a_sum_of_others(self):
        source = random.Random(38)
        for kinds in range(1, 7):
            for figures in [1, 14]:
                bills = [[of_figures(source, figures) for spot in range(kinds)] for bill in range(3)]
                often = [of_figures(source, figures) for bill in range(3)]
                total = led((kinds, bills), [0] * kinds, often)
                self.check_made_up(hall_of(kinds, bills + [total]), often + [-1])
                self.check_made_up(hall_of(kinds, [total] + bills), [-1] + often)

    def test_two_bills_of_one_kind(self):
        source = random.Random(39)
        for figures in [1, 2, 15, 30]:
            for turn in range(10):
                a = of_figures(source, figures)
                b = of_figures(source, figures)
                common = math.gcd(a, b)
                self.assertEqual(len(idle(hall_of(1, [[a], [b]]))), 1)
                self.check_made_up(hall_of(1, [[a], [b]]), [b // common, -a // common])
        self.check_made_up(hall_of(2, [[4, 8], [6, 12]]), [3, -2])
        self.check_made_up(hall_of(1, [[0], [5]]), [1, 0])

    def test_what_is_handed_in_stays(self):
        for hall in edge_halls():
            self.assertTrue(asked_twice(idle, [hall]))
            for each in idle(hall) + [[0] * len(hall[1])]:
                self.assertTrue(asked_twice(idle_by, [hall, times(each, 3)]))


if __name__ == "__main__":
    unittest.main()
